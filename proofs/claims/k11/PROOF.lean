import PyProof.Rows.All
import Wide.All
import OpenK.AllK
import Wide.FinOn
import HandS.ForMost
import HandS.Wide
import HandS.WideBits
import HandS.TupAny
import HandS.TupMul
import HandS.IsInst
import HandS.Walk
import HandS.Style
import KE.GoesZip
import KE.GoesMore
import KE.GoesEnum
import HandS.Codes
import HandS.FStrTup
import PyProof.ListMulRoad
import PyProof.FactsAll.tuple_2
import PyProof.ReprLoop
import PyProof.ReprHeadsTuple
import PyProof.StrHeap
import PyProof.CallStr
import PySem.Challenge.RW_countscribe_k11_forms
set_option Elab.async false
set_option linter.all false
set_option maxRecDepth 100000
set_option maxHeartbeats 2000000
/-! rules that the layer lacks: a power of great numbers, zip over a list and a tuple in any mix -/
namespace CK
open PySem PySem.Spec PyProof.Rows L2

section
variable {X : Cx}
theorem op_powB : OpR X (binaryOp .Pow) (rI (fun i j => 0 ≤ j ∧ (Builtin.Int.intBits i : Int) * j ≤ 2 ^ 27) fun i j => .int (i ^ j.toNat)) :=
  opI fun _ _ _ _ _ _ _ c q => pow_int c.1 c.2 q
end

/-- a list, or a tuple -/
inductive Kd | L | T
def SqB (K : PySem.W.Frag) : Kd → Hp → Addr → List V → Prop
  | .L, H, a, xs => SqL K H a xs
  | .T, H, a, xs => SqT K H a xs
def HasB : Kd → Heap → Addr → Array Value → Prop
  | .L, h, a, xs => h.IsList a xs
  | .T, h, a, xs => h.IsTuple a xs
def IterB : Kd → Heap → Addr → Addr → Nat → Prop
  | .L, h, it, a, i => h.IsListIter it a i
  | .T, h, it, a, i => h.IsTupleIter it a i
def objB : Kd → Addr → Obj
  | .L, a => { cls := .type "list_iterator", data := .fields #[.ref a, .int 0 0] }
  | .T, a => { cls := .type "tuple_iterator", data := .fields #[.ref a, .int 0 0] }
theorem drawsB (k : Kd) {prog : Program} {w : World} {A : Around} (hh : A.handled = none) (it t : Addr) (ne : t ≠ it) (zs : Array Value) :
    Draws prog w A it [it, t] zs.size (fun i v => zs[i]? = some v) (fun i h => IterB k h it t i ∧ HasB k h t zs) := by
  cases k with
  | L => exact Draws.list hh it t ne zs
  | T => exact Draws.tuple hh it t ne zs
theorem beginsB (k : Kd) (t : Addr) (zs : Array Value) : Begins (.ref t) (objB k t) fun h => HasB k h t zs := by
  cases k with
  | L => exact begins_list t zs
  | T => exact begins_tuple t zs
theorem IterB.at {k : Kd} {h h' : Heap} {it a : Addr} {i : Nat} (x : IterB k h it a i) (e : ∀ o, h.get? it = some o → h'.get? it = some o) : IterB k h' it a i := by
  cases k with
  | L => exact Heap.IsListIter.at x e
  | T => exact Heap.IsTupleIter.at x e
theorem IterB.there {k : Kd} {h : Heap} {it a : Addr} {i : Nat} (x : IterB k h it a i) : ∃ o, h.get? it = some o ∧ ∀ v, o.data ≠ .cell v := by
  cases k with
  | L =>
    obtain ⟨o, e, _, d⟩ := x
    exact ⟨o, e, fun v z => by rw [d] at z; cases z⟩
  | T =>
    obtain ⟨o, e, _, d⟩ := x
    exact ⟨o, e, fun v z => by rw [d] at z; cases z⟩
theorem IterB.new {k : Kd} {h : Heap} {it a : Addr} (e : h.get? it = some (objB k a)) : IterB k h it a 0 := by
  cases k with
  | L => exact ⟨_, e, rfl, rfl⟩
  | T => exact ⟨_, e, rfl, rfl⟩
theorem SqB.get {X : Cx} {pins : List (Addr × Obj)} {σ : L2.St} {H : Hp} {s : Shared} {k : Kd} {a : Addr} {xs : List V} (I : Inv X pins σ H s) (h : SqB X.K k H a xs) :
    ∃ zs : List Value, Vals xs zs ∧ HasB k s.heap a zs.toArray ∧ a < s.heap.objs.size := by
  cases k with
  | L =>
    obtain ⟨zs, r, p, _⟩ := I.list h
    exact ⟨zs, r, p.isList, p.lt⟩
  | T =>
    obtain ⟨zs, r, p, _⟩ := I.tuple h
    exact ⟨zs, r, p, p.lt⟩
theorem SqB.inj {X : Cx} {pins : List (Addr × Obj)} {σ : L2.St} {H : Hp} {s : Shared} {k : Kd} {a : Addr} {xs ys : List V} (I : Inv X pins σ H s) (h : SqB X.K k H a xs) (h' : SqB X.K k H a ys) : xs = ys := by
  cases k with
  | L => exact I.list_inj h h'
  | T => exact I.tuple_inj h h'

/-- both as they stand at each turn, the items in new pairs -/
def ItB (K : PySem.W.Frag) (k k' : Kd) (a b : Addr) : It :=
  ⟨fun i H => ∃ (xs ys : List V) (x y : V), SqB K k H a xs ∧ SqB K k' H b ys ∧ xs[i]? = some x ∧ ys[i]? = some y,
    fun i H v H' => ∃ T x y, v = .ref T ∧ H T = none ∧ H' = upd H T (.tup [x, y]) ∧ (∀ xs, SqB K k H a xs → xs[i]? = some x) ∧ ∀ ys, SqB K k' H b ys → ys[i]? = some y,
    fun i H => ∃ xs ys : List V, SqB K k H a xs ∧ SqB K k' H b ys ∧ i ≤ xs.length ∧ i ≤ ys.length ∧ (i = xs.length ∨ i = ys.length)⟩
theorem five {z TI TO i1 i2 c : Addr} (h : c ∈ [z, TI, TO, i1, i2]) : c = z ∨ c = TI ∨ c = TO ∨ c = i1 ∨ c = i2 := by simpa using h
theorem turnB {P : Program} {w : World} {K : PySem.W.Frag} {elts : List Expr} {kk : Nat} {tp : Pos} {k k' : Kd} {a b z TI TO i1 i2 : Addr} (S : ZipSep2 z TI TO i1 i2 [i1, a] [i2, b]) (na : a ≠ i1) (nb : b ≠ i2) :
    Turn P w K (.Tuple elts kk tp) (ItB K k k' a b) [z, TI, TO, i1, i2] z
      (fun i h => IsZip h z TI TO .none ∧ IsTupOf2 h TI (.ref i1) (.ref i2) ∧ (∃ x y, IsTupOf2 h TO x y) ∧ IterB k h i1 a i ∧ IterB k' h i2 b i) where
  mem := by simp
  obj := fun i h st c hc => by
    obtain ⟨hz, hI, ⟨x, y, hO⟩, h1, h2⟩ := st
    rcases five hc with q | q | q | q | q <;> subst q
    · exact ⟨_, hz, fun v q => nomatch q⟩
    · exact ⟨_, hI, fun v q => nomatch q⟩
    · exact ⟨_, hO, fun v q => nomatch q⟩
    · exact h1.there
    · exact h2.there
  keep := fun i h h' st q => by
    obtain ⟨hz, hI, ⟨x, y, hO⟩, h1, h2⟩ := st
    exact ⟨q z (by simp) _ hz, q TI (by simp) _ hI, ⟨x, y, q TO (by simp) _ hO⟩, h1.at (q i1 (by simp)), h2.at (q i2 (by simp))⟩
  item := by
    intro X hP hw hK hc i pins s σ H E I hf st hg
    subst hP hw hK
    obtain ⟨hz, hI, ⟨x0, y0, hO⟩, h1, h2⟩ := st
    obtain ⟨xs, ys, x, y, qx, qy, hx, hy⟩ := hg
    obtain ⟨zs, r1, p1, la⟩ := SqB.get I qx
    obtain ⟨zs', r2, p2, lb⟩ := SqB.get I qy
    obtain ⟨u, hu, ru⟩ := r1.get hx
    obtain ⟨u2, hu2, ru2⟩ := r2.get hy
    have z0 : z < s.heap.objs.size := Heap.lt_size hz
    have l1 : i < zs.toArray.size := by
      obtain ⟨q, _⟩ := List.getElem?_eq_some_iff.mp hu
      simpa using q
    have l2 : i < zs'.toArray.size := by
      obtain ⟨q, _⟩ := List.getElem?_eq_some_iff.mp hu2
      simpa using q
    have hh : X.A.in1.handled = none := I.ok.hd hc
    refine wpAny_pyNext_zipD2_item S (drawsB k hh i1 a na zs.toArray) (drawsB k' hh i2 b nb zs'.toArray) hz hI hO ⟨h1, p1⟩ ⟨h2, p2⟩ l1 l2 fun x1 x2 h' tk e1 e2 z' TO' t1 t2 hT hsz hk => ?_
    have e1' : x1 = u := by
      have q : zs[i]? = some x1 := by simpa using e1
      exact Option.some.inj (q.symm.trans hu)
    have e2' : x2 = u2 := by
      have q : zs'[i]? = some x2 := by simpa using e2
      exact Option.some.inj (q.symm.trans hu2)
    subst e1' e2'
    refine ⟨_, rfl, wpAny_letOwnedTupleGo_zip (s := { s with heap := h', toks := tk }) z' fun h'' z'' sb => ?_⟩
    have hT2 : h''.get? s.heap.objs.size = some { cls := .type "tuple", data := .seq #[x1, x2] } := (sb.2 _ (Nat.ne_of_gt z0)).trans hT
    have new : ObjOk X.prog X.w (upd H s.heap.objs.size (.tup [x, y])) h'' s.heap.objs.size (.tup [x, y]) :=
      ⟨by show 2 ≤ sizeLine; decide, [x1, x2], .cons ru (.cons ru2 .nil), ⟨_, hT2, rfl, _, rfl⟩⟩
    have I1 : Inv X pins σ (upd H s.heap.objs.size (.tup [x, y])) { s with heap := h'', toks := tk } :=
      I.turnedNew (ch := [z, TI, TO, i1, i2]) (fun c o hb q => by
        have n : c ≠ z ∧ c ≠ TI ∧ c ≠ TO ∧ c ≠ i1 ∧ c ≠ i2 := by simpa using hb
        exact (sb.2 c n.1).trans (hk c o n.1 n.2.2.1 n.2.2.2.1 n.2.2.2.2 q)) hf (Nat.le_refl _) new
    refine ⟨.ref s.heap.objs.size, _, I1, rfl, ⟨_, x, y, rfl, I.hok.fresh (Nat.le_refl _), rfl, fun l hl => by rw [SqB.inj I hl qx]; exact hx, fun l hl => by rw [SqB.inj I hl qy]; exact hy⟩, ⟨z'', ?_, ⟨x1, x2, ?_⟩, ?_, ?_⟩, fun c hcm => ?_⟩
    · exact (sb.2 _ S.TIz).trans (hk _ _ S.TIz S.TITO S.TIi1 S.TIi2 hI)
    · exact (sb.2 _ S.TOz).trans TO'
    · exact t1.1.at fun o q => (sb.2 _ S.zi1.symm).trans q
    · exact t2.1.at fun o q => (sb.2 _ S.zi2.symm).trans q
    · have lt : c < s.heap.objs.size := by
        rcases five hcm with q | q | q | q | q <;> subst q
        · exact z0
        · exact Heap.lt_size hI
        · exact Heap.lt_size hO
        · obtain ⟨_, e, _⟩ := h1.there
          exact Heap.lt_size e
        · obtain ⟨_, e, _⟩ := h2.there
          exact Heap.lt_size e
      rw [upd_ne (Nat.ne_of_lt lt)]
      exact (hf c hcm).1
  done := by
    intro X hP hw hK hc i pins s σ H E I hf st hg
    subst hP hw hK
    obtain ⟨hz, hI, ⟨x0, y0, hO⟩, h1, h2⟩ := st
    obtain ⟨xs, ys, qx, qy, m1, m2, hend⟩ := hg
    obtain ⟨zs, r1, p1, la⟩ := SqB.get I qx
    obtain ⟨zs', r2, p2, lb⟩ := SqB.get I qy
    have e1 : zs.toArray.size = xs.length := by rw [List.size_toArray]; exact r1.length.symm
    have e2 : zs'.toArray.size = ys.length := by rw [List.size_toArray]; exact r2.length.symm
    have hh : X.A.in1.handled = none := I.ok.hd hc
    exact wpAny_pyNext_zipD2_end S (drawsB k hh i1 a na zs.toArray) (drawsB k' hh i2 b nb zs'.toArray) hz hI hO ⟨h1, p1⟩ ⟨h2, p2⟩ (by omega) (by omega) (by omega) fun h' tk hk =>
      ⟨rfl, I.turnedL (ch := [z, TI, TO, i1, i2]) (fun c o hb q => by
        have n : c ≠ z ∧ c ≠ TI ∧ c ≠ TO ∧ c ≠ i1 ∧ c ≠ i2 := by simpa using hb
        exact hk c o n.1 n.2.2.1 n.2.2.2.1 n.2.2.2.2 q) hf⟩
  self := fun A i s Q E st h => wpAny_pyIter_zip st.1 h

def iZipB (K : PySem.W.Frag) (ta : TA) : TI := fun σ H R => ta σ H fun vs H1 => ∃ (k k' : Kd) (a b : Addr) (xs ys : List V), vs = [.ref a, .ref b] ∧ SqB K k H1 a xs ∧ SqB K k' H1 b ys ∧ R (ItB K k k' a b) H1
theorem pi_zipB {X : Cx} {K : PySem.W.Frag} {e e2 : Expr} {ta : TA} {p pos tp : Pos} {elts : List Expr} {kk : Nat} (hK : X.K = K) (hg : Gl X "zip") (hm : X.mg "zip" = none) (ha : PA X [e, e2] ta)
    (hs : starEach [e, e2] X.env = (false, eval e X.env) :: starEach [e2] X.env := by rfl) (hpl : (backTo pos (starEach [e2] X.env)).any (·.1) = false := by rfl) :
    PI X (.Tuple elts kk tp) (.Call (.Name "zip" p) [e, e2] [] pos) (iZipB K ta) := by
  subst hK
  refine ⟨fun pins s σ H R I h => Call_ (ld_blt I hg hm PyProof.Rows.boot_zip (callWith_type1 (thn (ha.run pos pins s σ H _ I h) fun us s1 q => ?_) hs hpl))⟩
  obtain ⟨vs, H1, I1, r1, k, k', a, b, xs, ys, rfl, qx, qy, q⟩ := q
  cases r1 with
  | cons r rr =>
  cases rr with
  | cons r' rr =>
  cases rr
  cases r
  cases r'
  obtain ⟨zs, _, p1, la⟩ := SqB.get I1 qx
  obtain ⟨zs', _, p2, lb⟩ := SqB.get I1 qy
  refine zip_begins2 (beginsB k a zs.toArray) (beginsB k' b zs'.toArray) p1 p2 fun h' hz hI hO o1 o2 hsz hk => wpAny_pyIter_zip hz ?_
  have S := zip_sep2 (N := s1.heap.objs.size) (fp1 := [a]) (fp2 := [b]) (fun c hc => by rw [List.mem_singleton.mp hc]; exact la) (fun c hc => by rw [List.mem_singleton.mp hc]; exact lb)
  refine ⟨s1.heap.objs.size + 4, _, _, _, H1, rfl, I1.kept (t' := s1.toks) hk, turnB S (Nat.ne_of_lt la) (Nat.ne_of_lt (Nat.lt_succ_of_lt lb)), ⟨hz, hI, ⟨_, _, hO⟩, .new o1, .new o2⟩, fun c hc => ?_, q⟩
  have le : s1.heap.objs.size ≤ c := by
    rcases five hc with z | z | z | z | z <;> subst z <;> first | exact Nat.le_add_right _ _ | exact Nat.le_refl _
  exact I1.fpOk le (I1.hok.fresh le)
theorem walkB {K : PySem.W.Frag} {k k' : Kd} {a b : Addr} {xs ys : List V} (hl : xs.length = ys.length) :
    Walk (ItB K k k' a b) xs.length (fun H => SqB K k H a xs ∧ SqB K k' H b ys) (YPair (fun i => xs[i]?) (fun i => ys[i]?)) := by
  refine ⟨fun i H hi q => ?_, fun H q => ⟨xs, ys, q.1, q.2, Nat.le_refl _, Nat.le_of_eq hl, .inl rfl⟩, fun i H v H' _ q y => ?_⟩
  · have h2 : i < ys.length := by omega
    exact ⟨xs, ys, xs[i], ys[i], q.1, q.2, by simp [hi], by simp [h2]⟩
  · obtain ⟨T, x, z, h1, h2, h3, h4, h5⟩ := y
    exact ⟨T, x, z, h1, h2, h3, h4 xs q.1, h5 ys q.2⟩
end CK

set_option Elab.async false
set_option linter.all false
set_option maxRecDepth 100000
set_option maxHeartbeats 4000000
namespace CK
open PySem PySem.Spec PyProof.Rows L2
theorem mulFill : fillsNumberSlot (.type "tuple") "mul" = pure false :=
  PySem.fillsNumberSlot_seq (r := some (.builtin "tuple.__rmul__")) (id := "tuple.__mul__") PySem.F.slot_tuple_mul.lookup (by decide +kernel)
    PySem.F.slot_tuple_rmul.lookup (by decide +kernel)
theorem mulSeq : seqRepeat? (.type "tuple") = pure (some (.builtin "tuple.__mul__")) := by
  unfold seqRepeat?
  rw [PySem.seqSlot_of (name := "__mul__") (id := "tuple.__mul__") (T := "tuple") PySem.F.slot_tuple_mul.lookup (by decide +kernel),
    PySem.seqSlot_of (name := "__rmul__") (id := "tuple.__rmul__") (T := "tuple") PySem.F.slot_tuple_rmul.lookup (by decide +kernel)]
  rfl
theorem rmulNo (a : Int) (t : Tok) (l : Addr) (zs : Array Value) (n : Nat) (dd : Option Addr) (sl : Array (Option Value)) :
    Meets (Builtin.«int.__rmul__» ⟨[.int a t, .ref l], []⟩) (fun _ R s =>
      s.heap.get? l = some { cls := .type "tuple", dict := dd, data := .seq zs n, slots := sl } ∧ R (.ok (.ret Value.notImplemented)) s) := by
  refine Meets.of_wp fun prog w A R s h => ?_
  obtain ⟨hq, g, d, tk, o2⟩ := s
  obtain ⟨hl, h⟩ := h
  wp_walk using wpAny_loadPart' hl
  exact ⟨_, rfl, h⟩
/-- one item, no times: a new empty tuple -/
theorem mul0 (l : Addr) (v : Value) (n : Nat) (dd : Option Addr) (sl : Array (Option Value)) (u : Tok) :
    Meets (Builtin.«tuple.__mul__» ⟨[.ref l, .int 0 u], []⟩) (fun _ R s =>
      s.heap.get? l = some { cls := .type "tuple", dict := dd, data := .seq #[v] n, slots := sl } ∧
      R (.ok (.ret (Value.ref s.heap.objs.size))) { s with heap := s.heap.push { cls := Value.type "tuple", data := Data.seq #[] } }) := by
  refine Meets.of_wp fun prog w A R s h => ?_
  obtain ⟨hq, g, d, tk, o2⟩ := s
  obtain ⟨hl, h⟩ := h
  have f1 := AutoSeq1.idx_int
  wp_walk using wpAny_loadPart' hl
  exact ⟨_, rfl, h⟩
/-- one item, once: the tuple itself -/
theorem mul1 (l : Addr) (v : Value) (n : Nat) (dd : Option Addr) (sl : Array (Option Value)) (u : Tok) :
    Meets (Builtin.«tuple.__mul__» ⟨[.ref l, .int 1 u], []⟩) (fun _ R s =>
      s.heap.get? l = some { cls := .type "tuple", dict := dd, data := .seq #[v] n, slots := sl } ∧ R (.ok (.ret (Value.ref l))) s) := by
  refine Meets.of_wp fun prog w A R s h => ?_
  obtain ⟨hq, g, d, tk, o2⟩ := s
  obtain ⟨hl, h⟩ := h
  have f1 := AutoSeq1.idx_int
  have f2 : (⟨hq, g, d, tk, o2⟩ : Shared).TypeIs (.ref l) "tuple" := ⟨_, hl, rfl⟩
  wp_walk using wpAny_loadPart' hl, wpAny_typeOf f2
  exact ⟨_, rfl, h⟩
section
variable {X : Cx}
theorem sameNew {H : Hp} {p : Addr} {o : HO} (h : H p = none) : Same H (upd H p o) := fun b z e => by
  rw [upd_ne (ne_of_none e h)]
  exact e
/-- one item, k times: 0 or 1 -/
def rRep01 : R2 := fun x y H Q => ∃ (l : Addr) (k : Int) (v : V), x = .ref l ∧ y = .int k ∧ H l = some (.tup [v]) ∧ (k = 0 ∨ k = 1) ∧
  ∀ p H', Same H H' → H' p = some (.tup (List.replicate k.toNat v)) → Q (.ref p) H'
theorem op_rep01 : OpR X (binaryOp .Mult) rRep01 := by
  intro pins s σ H x y xv yv Q I rx ry h
  obtain ⟨l, k, v, rfl, rfl, hl, hk, q⟩ := h
  cases rx
  obtain ⟨t, rfl⟩ := ry
  obtain ⟨zs, r, ⟨⟨cl, dd, da, sl⟩, ho, hc, n, hd⟩, hs⟩ := I.tuple (.inl (.inl hl) : SqT X.K H l [v])
  simp only at hc hd
  subst hc hd
  cases r with
  | cons r1 r2 =>
  cases r2
  rename_i u
  rcases hk with e | e <;> subst e
  · refine wpAny_binaryOp_repeat_ref (T := "tuple") (U := "int") (by decide) ⟨_, ho, rfl⟩ (fun s' => typeIs_int s' 0 t) mulFill F.fills_int_mul F.slot_int_rmul mulSeq F.slot_int_index.lookup
      (call_meets F.slot_int_rmul (typeIs_int s 0 t) F.entry_int_rmul (F.args_int_rmul_2 _ _) (rmulNo 0 t l _ n dd sl)
        ⟨ho, rfl, ⟨_, ho, rfl⟩, call_meets F.slot_tuple_mul ⟨_, ho, rfl⟩ F.entry_tuple_mul (F.args_tuple_mul_2 _ _) (mul0 l _ n dd sl t) ⟨ho, ?_⟩⟩)
    have hn : H s.heap.objs.size = none := I.hok.fresh (Nat.le_refl _)
    refine ⟨.ref s.heap.objs.size, _, I.laid (t' := s.toks) (o := .tup []) (fun b ob q => Heap.get?_push_of_some _ q) (Nat.le_refl _) ?_, rfl, q _ _ (sameNew hn) upd_same⟩
    exact ⟨Nat.zero_le _, [], .nil, IsTup.new _ _⟩
  · exact wpAny_binaryOp_repeat_ref (T := "tuple") (U := "int") (by decide) ⟨_, ho, rfl⟩ (fun s' => typeIs_int s' 1 t) mulFill F.fills_int_mul F.slot_int_rmul mulSeq F.slot_int_index.lookup
      (call_meets F.slot_int_rmul (typeIs_int s 1 t) F.entry_int_rmul (F.args_int_rmul_2 _ _) (rmulNo 1 t l _ n dd sl)
        ⟨ho, rfl, ⟨_, ho, rfl⟩, call_meets F.slot_tuple_mul ⟨_, ho, rfl⟩ F.entry_tuple_mul (F.args_tuple_mul_2 _ _) (mul1 l _ n dd sl t)
          ⟨ho, ⟨.ref l, H, I, rfl, q l H (Same.refl H) hl⟩⟩⟩)
/-! ### str(tuple of whole numbers): some text -/
theorem reprInts {prog : Program} {w : World} : ∀ {ns : List Int} {zs : List Value}, Vals (ns.map V.int) zs → (∀ n ∈ ns, n.natAbs.log2 < 1920) → ReprAll prog w zs (ns.map fun n => (toString n : Str))
  | [], _, r, _ => by
    cases r
    exact .nil
  | n :: l, _, r, h => by
    cases r with
    | cons r1 r2 =>
    obtain ⟨t, rfl⟩ := r1
    exact .cons (ReprIs.int t (h n List.mem_cons_self)) (reprInts r2 fun z hz => h z (List.mem_cons_of_mem _ hz))
end
end CK
namespace CK
open PySem PySem.Spec PyProof.Rows L2
section
variable {X : Cx}
/-- one item, k times -/
def rRepOne (K : PySem.W.Frag) : R2 := fun x y H Q => ∃ (l : Addr) (k : Int) (v : V), x = .ref l ∧ y = .int k ∧ H l = some (.tup [v]) ∧ 0 ≤ k ∧ k ≤ 1000 ∧
  ∀ p H', Same H H' → H' p = some (.tup (List.replicate k.toNat v)) → Q (.ref p) H'
theorem flat_rep {α : Type} (v : α) : ∀ n : Nat, (List.replicate n [v]).flatten = List.replicate n v
  | 0 => rfl
  | n + 1 => by rw [List.replicate_succ, List.flatten_cons, flat_rep v n, List.replicate_succ]; rfl
theorem op_repOne : OpR X (binaryOp .Mult) (rRepOne X.K) := by
  intro pins s σ H x y xv yv Q I rx ry h
  obtain ⟨l, k, v, rfl, rfl, hl, h0, h1, q⟩ := h
  by_cases hk : k = 0 ∨ k = 1
  · exact op_rep01 pins s σ H _ _ xv yv Q I rx ry ⟨l, k, v, rfl, rfl, hl, hk, q⟩
  · refine op_repT pins s σ H _ _ xv yv Q I rx ry ⟨l, k, [v], rfl, rfl, .inl (.inl hl), List.cons_ne_nil _ _, by omega, h1, by show 1 ≤ 1000; omega, fun p hp => q p _ (sameNew hp) ?_⟩
    rw [upd_same, flat_rep]
/-- str of a tuple of whole numbers: some text -/
theorem call_str_tup {k : Nat} (hr : Room k X.A) : CallR X (.type "str") (fun xs H Q => ∃ (a : Addr) (ns : List Int), xs = [.ref a] ∧ H a = some (.tup (ns.map V.int)) ∧ ns.length ≤ 100 ∧ (∀ n ∈ ns, n.natAbs.log2 < 1920) ∧ ∀ m : Str, Q (.str m) H) := by
  intro pins s σ H xs us Q I r h
  obtain ⟨a, ns, rfl, ha, hl, hn, q⟩ := h
  obtain ⟨u, rfl, rx⟩ := vals1 r
  cases rx
  obtain ⟨zs, rv, ⟨o, ho, hc, n, hd⟩, hz⟩ := I.tuple (.inl (.inl ha) : SqT X.K H a _)
  have hu := hr.units
  have hT : ReprAll X.prog X.w zs.toArray.toList (ns.map fun n => (toString n : Str)) := by simpa using reprInts rv hn
  have hp : ∀ l : List Int, (∀ n ∈ l, n.natAbs.log2 < 1920) → piled (l.map fun n => (toString n : Str)) ≤ l.length * 1923 := by
    intro l
    induction l with
    | nil => intro _; exact Nat.le_refl _
    | cons z l ih =>
      intro h
      have a1 := int_text_length_le (a := z) (k := 1920) (by omega) (h z List.mem_cons_self)
      have a2 := ih fun n hn => h n (List.mem_cons_of_mem _ hn)
      rw [List.map_cons, piled_cons, List.length_cons]
      have a3 : ((toString z : Str)).length = (toString z).length := PySem.ofString_length _
      omega
  have h1 := fmt_text (ns.map fun n => (toString n : Str))
  have h2 := hp ns hn
  have h3 : ns.length * 1923 ≤ 192300 := by omega
  have h4 : (tupleText (ns.map fun n => (toString n : Str))).length ≤ sizeLine := by
    rw [sizeLine_eq]
    omega
  refine callType_new F.called_str (by decide) (F.typeCall_str_1 _) (F.newCall_str_1 _) (fun obj => F.args_object_init_2 obj _) F.entry_str_new
    (meets_str_new (S := fun A' R s' => A'.units + 4 < cLine ∧ s'.heap.get? a = some o ∧ ∀ (m : Str) (u tk : Tok), R (.ok (.ret (.str m u))) { s' with toks := tk }) fun prog w A' R s' h =>
      wpAny_strOf_slot rfl (by show A'.units + 1 + 1 < cLine; have := h.1; omega) ⟨o, h.2.1, hc⟩ F.slot_tuple_str F.slot_tuple_repr
        (fmt_tuple_repr h.2.1 hc hd ?_ h4 fun m u tk _ => ⟨m, u, rfl, h.2.2 m u tk⟩))
    ⟨by show X.A.units + 1 + 4 < cLine; omega, ho, fun m u tk => ⟨typeIs_str _ _ _, .str m, H, I.tok _, ⟨u, rfl⟩, q m⟩⟩
  exact by simpa using reprInts rv hn
end
end CK

set_option Elab.async false
set_option linter.all false
set_option maxRecDepth 100000
set_option maxHeartbeats 2000000
namespace CK
open PySem PySem.Spec PyProof.Rows L2
/-! ### a def as it stands behind the top, and its promise by its body -/
structure DefF (K : PySem.W.Frag) (mg : Str → Option Value) (x : Str) (st : Stmt) (ps : List Str) : Prop where
  ex : ∃ (f : Addr) (fd : FuncData), C8.Def K mg x st f fd ∧ ∀ us : List Value, us.length = ps.length → bindArgs fd ⟨us, []⟩ = pure (ps.zip us)
theorem defF_mk {K : PySem.W.Frag} {h : Heap} {mg : Str → Option Value} {x : Str} {st : Stmt} {ps : List Str} {f : Addr} {od an : Option Addr} {oc kV dc pm cd ct : Value} {sl : Array (Option Value)}
    (X : K.In h) (G : h.Ns mainGlobals mg) (a : PySem.W.nsIn K mainGlobals x = some (some (.ref f)))
    (l : K.lookup f = some ⟨oc, od, .func (PySem.W.fnOf x x (C8.fnArgs st) (C8.fnBody st) (C8.fnScope st) .none kV dc pm an cd ct), sl⟩)
    (c : PySem.W.codeIn K cd x = true) (k : PySem.W.keepIn K (.ref f) = true)
    (hb : ∀ (kV doc pm : Value) (an : Option Addr) (cdv ct : Value) (us : List Value), us.length = ps.length →
      bindArgs (PySem.W.fnOf x x (C8.fnArgs st) (C8.fnBody st) (C8.fnScope st) .none kV doc pm an cdv ct) ⟨us, []⟩ = pure (ps.zip us)) : DefF K mg x st ps :=
  ⟨f, _, ⟨⟨oc, od, .none, kV, dc, pm, an, cd, ct, sl, rfl, l, c⟩, PySem.W.mg_of X G a, k⟩, hb kV dc pm an cd ct⟩
theorem calF {P : Program} {w : World} {K : PySem.W.Frag} {mg : Str → Option Value} {base : Heap} {x : Str} {st : Stmt} {N ps : List Str} {k : Nat} {sp : Sp} (D : DefF K mg x st ps) (S : FnScope N ps (C8.fnScope st))
    (len : ∀ vs H Q E, sp vs H Q E → vs.length = ps.length)
    (hbody : ∀ (f : Addr) (cdv : Value) (A : Around) (outer : List Env) (s : Shared) (H : Hp) (vs : List V) (Q : VK) (E : XK), Room k (A.deeper (envOfC x (C8.fnScope st) s.heap.objs.size f cdv)) → sp vs H Q E →
      ∃ t, PSs (cxOf C8.CX0 P w K mg base N x (C8.fnScope st) f cdv A outer s H E).nox (C8.fnBody st) t ∧ t { nx := fun _ H' => Q .non H', rt := Q } (start N vs) H) : C8.Cal P w K mg base (k + 1) x sp [] := by
  obtain ⟨f, fd, F, b⟩ := D.ex
  exact C8.cal0 F (.all b) .nil S len (hbody f)
/-- a def of one parameter as it stands, for the law's end -/
theorem DefF.one {K : PySem.W.Frag} {mg : Str → Option Value} {x p : Str} {st : Stmt} (D : DefF K mg x st [p]) : ∃ (f : Addr) (fd : FuncData), mg x = some (.ref f) ∧ (∀ (s : Shared) (v : Value), BindsTo s fd ⟨[v], []⟩ [(p, v)]) ∧
    ∀ {P : Program} {w : World} {base : Heap} {N : List Str} {k : Nat} {sp : Sp} (S : FnScope N [p] (C8.fnScope st)) (len : ∀ vs H Q E, sp vs H Q E → vs.length = 1)
      (hbody : ∀ (f : Addr) (cdv : Value) (A : Around) (outer : List Env) (s : Shared) (H : Hp) (vs : List V) (Q : VK) (E : XK), Room k (A.deeper (envOfC x (C8.fnScope st) s.heap.objs.size f cdv)) → sp vs H Q E →
        ∃ t, PSs (cxOf C8.CX0 P w K mg base N x (C8.fnScope st) f cdv A outer s H E).nox (C8.fnBody st) t ∧ t { nx := fun _ H' => Q .non H', rt := Q } (start N vs) H), FnOk P w K mg base C8.CX0 (k + 1) f fd [p] sp := by
  obtain ⟨f, fd, F, b⟩ := D.ex
  exact ⟨f, fd, F.mgf, fun s v => .of_eq (b [v] rfl), fun S len hbody => C8.fn0 F.fn S len (hbody f)⟩

theorem with_def {K : PySem.W.Frag} {h : Heap} {mg : Str → Option Value} (_ : K.In h) (x : Str) (st : Stmt) (ps : List Str) {R : Prop} (d : DefF K mg x st ps) (r : DefF K mg x st ps → R) : R := r d
/-! ### heaps -/
/-- all that was tracked is as it was, but for g -/
def SameX (g : Addr) (H H' : Hp) : Prop := ∀ b o, b ≠ g → H b = some o → H' b = some o
theorem SameX.refl (g : Addr) (H : Hp) : SameX g H H := fun _ _ _ h => h
theorem SameX.trans {g : Addr} {H H1 H2 : Hp} (a : SameX g H H1) (b : SameX g H1 H2) : SameX g H H2 := fun c o n h => b c o n (a c o n h)
theorem SameX.of {g : Addr} {H H1 : Hp} (a : Same H H1) : SameX g H H1 := fun c o _ h => a c o h
theorem sameX_upd {g : Addr} {H : Hp} {o : HO} : SameX g H (upd H g o) := fun b z n e => by
  rw [upd_ne n]
  exact e
theorem same_upd2 {H H1 : Hp} {D : Addr} {o : HO} (hD : H D = none) (s : Same H H1) : Same H (upd H1 D o) := fun b z e => by
  rw [upd_ne (ne_of_none e hD)]
  exact s b z e

/-! ### what a value is -/
/-- the built-in type of a value that is known -/
def tnm (H : Hp) : V → String
  | .non => "NoneType"
  | .bl _ => "bool"
  | .int _ => "int"
  | .str _ => "str"
  | .ref a => match H a with
    | some (.lst _) => "list"
    | some (.tup _) => "tuple"
    | _ => "?"
  | _ => "?"
theorem tnm_tup {H : Hp} {a : Addr} {xs : List V} (h : H a = some (.tup xs)) : tnm H (.ref a) = "tuple" := by
  simp only [tnm, h]
theorem tnm_lst {H : Hp} {a : Addr} {xs : List V} (h : H a = some (.lst xs)) : tnm H (.ref a) = "list" := by
  simp only [tnm, h]
/-- a value whose type is known -/
inductive Kn (H : Hp) : V → Prop
  | non : Kn H .non
  | bl (b : Bool) : Kn H (.bl b)
  | int (i : Int) : Kn H (.int i)
  | str (x : Str) : Kn H (.str x)
  | lst {a : Addr} {xs : List V} (e : H a = some (.lst xs)) : Kn H (.ref a)
  | tup {a : Addr} {xs : List V} (e : H a = some (.tup xs)) : Kn H (.ref a)
theorem Kn.same {H H' : Hp} {v : V} (k : Kn H v) (s : Same H H') : Kn H' v := by
  cases k with
  | non => exact .non
  | bl b => exact .bl b
  | int i => exact .int i
  | str x => exact .str x
  | lst e => exact .lst (s _ _ e)
  | tup e => exact .tup (s _ _ e)
theorem Kn.ty {K : PySem.W.Frag} {H : Hp} {v : V} (k : Kn H v) : TyX K H v (.type (tnm H v)) := by
  cases k with
  | non => exact .base .non
  | bl b => exact .base (.bl b)
  | int i => exact .base (.int i)
  | str x => exact .base (.str x)
  | lst e => rw [tnm_lst e]; exact .base (.lst e)
  | tup e => rw [tnm_tup e]; exact .base (.tup e)
section
variable {X : Cx}
/-- isinstance(v, T), a known value, a built-in type -/
theorem call_isK : CallR X (.builtin "isinstance") (fun xs H Q => ∃ (v : V) (T : String) (b : Bool), xs = [v, .ty T] ∧ Kn H v ∧ kitB (tnm H v) T = some b ∧ Q (.bl b) H) := by
  intro pins s σ H xs us Q I r h
  obtain ⟨v, T, b, rfl, k, e, q⟩ := h
  exact call_isi pins s σ H _ us Q I r ⟨v, .ty T, _, _, b, rfl, .ty T, k.ty, kit_ty e, q⟩
end
/-- a whole number, no Boolean -/
def isW : V → Bool
  | .int _ => true
  | _ => false
/-- a count -/
def isC : V → Bool
  | .int i => decide (0 ≤ i)
  | _ => false
/-- isinstance(v, int) -/
def isI : V → Bool
  | .int _ => true
  | .bl _ => true
  | _ => false
def isBo : V → Bool
  | .bl _ => true
  | _ => false
def isTu (H : Hp) : V → Bool
  | .ref a => match H a with
    | some (.tup _) => true
    | _ => false
  | _ => false
def isLi (H : Hp) : V → Bool
  | .ref a => match H a with
    | some (.lst _) => true
    | _ => false
  | _ => false
theorem kit_int {H : Hp} {v : V} (k : Kn H v) : kitB (tnm H v) "int" = some (isI v) := by
  cases k with
  | non => show kitB "NoneType" "int" = some false; decide +kernel
  | bl b => show kitB "bool" "int" = some true; decide +kernel
  | int i => show kitB "int" "int" = some true; decide +kernel
  | str x => show kitB "str" "int" = some false; decide +kernel
  | lst e => rw [tnm_lst e]; show kitB "list" "int" = some false; decide +kernel
  | tup e => rw [tnm_tup e]; show kitB "tuple" "int" = some false; decide +kernel
theorem kit_bool {H : Hp} {v : V} (k : Kn H v) : kitB (tnm H v) "bool" = some (isBo v) := by
  cases k with
  | non => show kitB "NoneType" "bool" = some false; decide +kernel
  | bl b => show kitB "bool" "bool" = some true; decide +kernel
  | int i => show kitB "int" "bool" = some false; decide +kernel
  | str x => show kitB "str" "bool" = some false; decide +kernel
  | lst e => rw [tnm_lst e]; show kitB "list" "bool" = some false; decide +kernel
  | tup e => rw [tnm_tup e]; show kitB "tuple" "bool" = some false; decide +kernel
theorem kit_tuple {H : Hp} {v : V} (k : Kn H v) : kitB (tnm H v) "tuple" = some (isTu H v) := by
  cases k with
  | non => show kitB "NoneType" "tuple" = some false; decide +kernel
  | bl b => show kitB "bool" "tuple" = some false; decide +kernel
  | int i => show kitB "int" "tuple" = some false; decide +kernel
  | str x => show kitB "str" "tuple" = some false; decide +kernel
  | lst e => rw [tnm_lst e, show isTu H (.ref _) = false by simp only [isTu, e]]; decide +kernel
  | tup e => rw [tnm_tup e, show isTu H (.ref _) = true by simp only [isTu, e]]; decide +kernel
theorem kit_list {H : Hp} {v : V} (k : Kn H v) : kitB (tnm H v) "list" = some (isLi H v) := by
  cases k with
  | non => show kitB "NoneType" "list" = some false; decide +kernel
  | bl b => show kitB "bool" "list" = some false; decide +kernel
  | int i => show kitB "int" "list" = some false; decide +kernel
  | str x => show kitB "str" "list" = some false; decide +kernel
  | lst e => rw [tnm_lst e, show isLi H (.ref _) = true by simp only [isLi, e]]; decide +kernel
  | tup e => rw [tnm_tup e, show isLi H (.ref _) = false by simp only [isLi, e]]; decide +kernel
theorem isTu_tup {H : Hp} {a : Addr} {xs : List V} (e : H a = some (.tup xs)) : isTu H (.ref a) = true := by simp only [isTu, e]
theorem isLi_lst {H : Hp} {a : Addr} {xs : List V} (e : H a = some (.lst xs)) : isLi H (.ref a) = true := by simp only [isLi, e]

/-! ### comprehensions that map -/
/-- n turns, each giving f i and leaving all that was tracked -/
theorem lc_mapW {J : It} {n : Nat} {G : Hp → Prop} {Y : Nat → Hp → V → Hp → Prop} (w : Walk J n G Y) {g : TG} {te : TE} {vs : List Nat} {σ : L2.St} {H1 : Hp} {D : Addr} {Qd : Hp → Prop} (f : Nat → V) (hn : n < sizeLine)
    (hG : ∀ H, Same H1 H → G H)
    (hs : ∀ (i : Nat) (x : V) (H H' : Hp) (R : VK), i < n → Same H1 H → Y i H x H' → (∀ H'', Same H H'' → R (f i) H'') → g x (wipe σ vs) H' fun σ2 H2 => wipe σ2 vs = wipe σ vs ∧ te σ2 H2 R)
    (hD : H1 D = none) (hd : ∀ H : Hp, Same H1 H → H D = some (.lst ((List.range n).map f)) → Qd H) :
    ∃ W : Nat → Nat → Hp → Prop, (∃ m, W 0 m (upd H1 D (.lst []))) ∧ ∀ i m H, W i m H →
      (J.stop i H ∧ Qd H) ∨ (J.go i H ∧ ∃ Nx : Hp → Prop, (∀ H', Nx H' → ∃ m', m' < m ∧ W (i + 1) m' H') ∧ ∀ x H', J.yld i H x H' → g x (wipe σ vs) H' fun σ2 H2 => wipe σ2 vs = wipe σ vs ∧ tYes σ2 H2 fun b H3 =>
        if b = true then te σ2 H3 fun y H4 => ∃ acc, H4 D = some (.lst acc) ∧ acc.length < sizeLine ∧ Nx (upd H4 D (.lst (acc ++ [y]))) else Nx H3) := by
  refine lc_it w (fun i H => Same H1 H ∧ H D = some (.lst ((List.range i).map f)) ∧ i ≤ n) ⟨sameNew hD, upd_same, Nat.zero_le _⟩ (fun i H _ p => hG H p.1) (fun i x H H' hi p y => ?_) fun H p => hd H p.1 p.2.1
  have q := hs i x H H' (fun y H4 => ∃ acc, H4 D = some (.lst acc) ∧ acc.length < sizeLine ∧ (Same H1 (upd H4 D (.lst (acc ++ [y]))) ∧ upd H4 D (.lst (acc ++ [y])) D = some (.lst ((List.range (i + 1)).map f)) ∧ i + 1 ≤ n)) hi p.1 y fun H'' s => by
    refine ⟨_, s D _ p.2.1, ?_, same_upd2 hD (p.1.trans s), ?_, hi⟩
    · rw [List.length_map, List.length_range]
      omega
    · rw [upd_same, List.range_succ, List.map_append]
      rfl
  exact q
theorem range_map_get {α β : Type} (xs : List α) (f : α → β) (d : Nat → β) (h : ∀ (i : Nat) (x : α), xs[i]? = some x → d i = f x) : (List.range xs.length).map d = xs.map f := by
  refine List.ext_getElem? fun i => ?_
  by_cases hi : i < xs.length
  · rw [List.getElem?_map, List.getElem?_map, List.getElem?_range hi, List.getElem?_eq_getElem hi]
    exact congrArg some (h i _ (List.getElem?_eq_getElem hi))
  · rw [List.getElem?_eq_none (by simp; omega), List.getElem?_eq_none (by simp; omega)]
/-- over a tuple -/
theorem lcT_map {K : PySem.W.Frag} {a : Addr} {xs : List V} {j : Nat} {te : TE} {vs : List Nat} {σ : L2.St} {H1 : Hp} {D : Addr} {Qd : Hp → Prop} (f : V → V) (ha : H1 a = some (.tup xs)) (hn : xs.length < sizeLine)
    (hs : ∀ (i : Nat) (x : V) (H : Hp) (R : VK), xs[i]? = some x → Same H1 H → (∀ H', Same H H' → R (f x) H') → wipe ((wipe σ vs).set j (some x)) vs = wipe σ vs ∧ te ((wipe σ vs).set j (some x)) H R)
    (hD : H1 D = none) (hd : ∀ H : Hp, Same H1 H → H D = some (.lst (xs.map f)) → Qd H) :
    ∃ W : Nat → Nat → Hp → Prop, (∃ m, W 0 m (upd H1 D (.lst []))) ∧ ∀ i m H, W i m H →
      ((Itt K a).stop i H ∧ Qd H) ∨ ((Itt K a).go i H ∧ ∃ Nx : Hp → Prop, (∀ H', Nx H' → ∃ m', m' < m ∧ W (i + 1) m' H') ∧ ∀ x H', (Itt K a).yld i H x H' → gName j x (wipe σ vs) H' fun σ2 H2 => wipe σ2 vs = wipe σ vs ∧ tYes σ2 H2 fun b H3 =>
        if b = true then te σ2 H3 fun y H4 => ∃ acc, H4 D = some (.lst acc) ∧ acc.length < sizeLine ∧ Nx (upd H4 D (.lst (acc ++ [y]))) else Nx H3) := by
  have e : (List.range xs.length).map (fun i => f (xs.getD i .non)) = xs.map f := range_map_get xs f _ fun i x h => by rw [List.getD_eq_getElem?_getD, h]; rfl
  refine lc_mapW (walk_tup (K := K) (a := a) (xs := xs)) (fun i => f (xs.getD i .non)) hn (fun H s => .inl (.inl (s _ _ ha))) (fun i x H H' R hi s y q => ?_) hD fun H s q => hd H s (by rw [q, e])
  obtain ⟨rfl, hx⟩ := y
  refine hs i x H' R hx s fun H'' s' => ?_
  have := q H'' s'
  rw [show xs.getD i .non = x by rw [List.getD_eq_getElem?_getD, hx]; rfl] at this
  exact this
/-- over a list -/
theorem lcL_map {K : PySem.W.Frag} {a : Addr} {xs : List V} {j : Nat} {te : TE} {vs : List Nat} {σ : L2.St} {H1 : Hp} {D : Addr} {Qd : Hp → Prop} (f : V → V) (ha : H1 a = some (.lst xs)) (hn : xs.length < sizeLine)
    (hs : ∀ (i : Nat) (x : V) (H : Hp) (R : VK), xs[i]? = some x → Same H1 H → (∀ H', Same H H' → R (f x) H') → wipe ((wipe σ vs).set j (some x)) vs = wipe σ vs ∧ te ((wipe σ vs).set j (some x)) H R)
    (hD : H1 D = none) (hd : ∀ H : Hp, Same H1 H → H D = some (.lst (xs.map f)) → Qd H) :
    ∃ W : Nat → Nat → Hp → Prop, (∃ m, W 0 m (upd H1 D (.lst []))) ∧ ∀ i m H, W i m H →
      ((Itl K a).stop i H ∧ Qd H) ∨ ((Itl K a).go i H ∧ ∃ Nx : Hp → Prop, (∀ H', Nx H' → ∃ m', m' < m ∧ W (i + 1) m' H') ∧ ∀ x H', (Itl K a).yld i H x H' → gName j x (wipe σ vs) H' fun σ2 H2 => wipe σ2 vs = wipe σ vs ∧ tYes σ2 H2 fun b H3 =>
        if b = true then te σ2 H3 fun y H4 => ∃ acc, H4 D = some (.lst acc) ∧ acc.length < sizeLine ∧ Nx (upd H4 D (.lst (acc ++ [y]))) else Nx H3) := by
  have e : (List.range xs.length).map (fun i => f (xs.getD i .non)) = xs.map f := range_map_get xs f _ fun i x h => by rw [List.getD_eq_getElem?_getD, h]; rfl
  refine lc_mapW (walk_list (K := K) (a := a) (xs := xs)) (fun i => f (xs.getD i .non)) hn (fun H s => .inl (.inl (s _ _ ha))) (fun i x H H' R hi s y q => ?_) hD fun H s q => hd H s (by rw [q, e])
  obtain ⟨rfl, hx⟩ := y
  refine hs i x H' R hx s fun H'' s' => ?_
  have := q H'' s'
  rw [show xs.getD i .non = x by rw [List.getD_eq_getElem?_getD, hx]; rfl] at this
  exact this
/-- over a range -/
theorem lcR_map {lo : Int} {n : Nat} {j : Nat} {te : TE} {vs : List Nat} {σ : L2.St} {H1 : Hp} {D : Addr} {Qd : Hp → Prop} (f : Nat → V) (hn : n < sizeLine)
    (hs : ∀ (i : Nat) (H : Hp) (R : VK), i < n → Same H1 H → (∀ H', Same H H' → R (f i) H') → wipe ((wipe σ vs).set j (some (.int (lo + i)))) vs = wipe σ vs ∧ te ((wipe σ vs).set j (some (.int (lo + i)))) H R)
    (hD : H1 D = none) (hd : ∀ H : Hp, Same H1 H → H D = some (.lst ((List.range n).map f)) → Qd H) :
    ∃ W : Nat → Nat → Hp → Prop, (∃ m, W 0 m (upd H1 D (.lst []))) ∧ ∀ i m H, W i m H →
      ((Itr lo n).stop i H ∧ Qd H) ∨ ((Itr lo n).go i H ∧ ∃ Nx : Hp → Prop, (∀ H', Nx H' → ∃ m', m' < m ∧ W (i + 1) m' H') ∧ ∀ x H', (Itr lo n).yld i H x H' → gName j x (wipe σ vs) H' fun σ2 H2 => wipe σ2 vs = wipe σ vs ∧ tYes σ2 H2 fun b H3 =>
        if b = true then te σ2 H3 fun y H4 => ∃ acc, H4 D = some (.lst acc) ∧ acc.length < sizeLine ∧ Nx (upd H4 D (.lst (acc ++ [y]))) else Nx H3) := by
  refine lc_mapW (walk_range (lo := lo) (n := n)) f hn (fun H s => True.intro) (fun i x H H' R hi s y q => ?_) hD fun H s q => hd H s q
  obtain ⟨rfl, rfl⟩ := y
  exact hs i H' R hi s q
theorem range_map_zip {α β γ : Type} (xs : List α) (ys : List β) (hl : xs.length = ys.length) (f : α → β → γ) (d : Nat → γ) (h : ∀ (i : Nat) (x : α) (y : β), xs[i]? = some x → ys[i]? = some y → d i = f x y) : (List.range xs.length).map d = List.zipWith f xs ys := by
  refine List.ext_getElem? fun i => ?_
  by_cases hi : i < xs.length
  · have hi2 : i < ys.length := by omega
    rw [List.getElem?_map, List.getElem?_range hi, List.getElem?_zipWith, List.getElem?_eq_getElem hi, List.getElem?_eq_getElem hi2]
    exact congrArg some (h i _ _ (List.getElem?_eq_getElem hi) (List.getElem?_eq_getElem hi2))
  · rw [List.getElem?_eq_none (by simp; omega), List.getElem?_eq_none (by simp; omega)]
/-- over zip -/
theorem lcZ_map {K : PySem.W.Frag} {k k' : Kd} {a b : Addr} {xs ys : List V} {i1 i2 : Nat} {te : TE} {vs : List Nat} {σ : L2.St} {H1 : Hp} {D : Addr} {Qd : Hp → Prop} (f : V → V → V) (hl : xs.length = ys.length) (hn : xs.length < sizeLine)
    (ha : ∀ H, Same H1 H → SqB K k H a xs ∧ SqB K k' H b ys)
    (hs : ∀ (i : Nat) (x y : V) (H : Hp) (R : VK), xs[i]? = some x → ys[i]? = some y → Same H1 H → (∀ H', Same H H' → R (f x y) H') → wipe (((wipe σ vs).set i1 (some x)).set i2 (some y)) vs = wipe σ vs ∧ te (((wipe σ vs).set i1 (some x)).set i2 (some y)) H R)
    (hD : H1 D = none) (hd : ∀ H : Hp, Same H1 H → H D = some (.lst (List.zipWith f xs ys)) → Qd H) :
    ∃ W : Nat → Nat → Hp → Prop, (∃ m, W 0 m (upd H1 D (.lst []))) ∧ ∀ i m H, W i m H →
      ((ItB K k k' a b).stop i H ∧ Qd H) ∨ ((ItB K k k' a b).go i H ∧ ∃ Nx : Hp → Prop, (∀ H', Nx H' → ∃ m', m' < m ∧ W (i + 1) m' H') ∧ ∀ x H', (ItB K k k' a b).yld i H x H' → gTup K 2 (gCons (gName i1) (gCons (gName i2) gNil)) x (wipe σ vs) H' fun σ2 H2 => wipe σ2 vs = wipe σ vs ∧ tYes σ2 H2 fun b H3 =>
        if b = true then te σ2 H3 fun y H4 => ∃ acc, H4 D = some (.lst acc) ∧ acc.length < sizeLine ∧ Nx (upd H4 D (.lst (acc ++ [y]))) else Nx H3) := by
  have e : (List.range xs.length).map (fun i => f (xs.getD i .non) (ys.getD i .non)) = List.zipWith f xs ys := range_map_zip xs ys hl f _ fun i x y h h' => by
    rw [List.getD_eq_getElem?_getD, List.getD_eq_getElem?_getD, h, h']
    rfl
  refine lc_mapW (walkB (K := K) (k := k) (k' := k') (a := a) (b := b) hl) (fun i => f (xs.getD i .non) (ys.getD i .non)) hn ha (fun i v H H' R hi s y q => ?_) hD fun H s q => hd H s (by rw [q, e])
  obtain ⟨T, x, y, rfl, hT, rfl, hx, hy⟩ := y
  have hx : xs[i]? = some x := hx
  have hy : ys[i]? = some y := hy
  have st : Same H (upd H T (.tup [x, y])) := sameNew hT
  refine ⟨T, [x, y], rfl, .inl (.inl upd_same), rfl, x, [y], rfl, y, [], rfl, rfl, hs i x y _ R hx hy (s.trans st) fun H'' s' => ?_⟩
  have := q H'' (st.trans s')
  rw [show xs.getD i .non = x by rw [List.getD_eq_getElem?_getD, hx]; rfl, show ys.getD i .non = y by rw [List.getD_eq_getElem?_getD, hy]; rfl] at this
  exact this
end CK

set_option Elab.async false
set_option linter.all false
set_option maxRecDepth 100000
set_option maxHeartbeats 2000000
namespace CK
open PySem PySem.Spec PyProof.Rows L2
theorem cutV_drop (xs : List V) (k : Nat) : cutV xs (some (k : Int)) none = xs.drop k := by
  unfold cutV
  rw [HT.sIx_nat xs.length 0 k, HT.sIx_none]
  by_cases h : k ≤ xs.length
  · rw [Nat.min_eq_left h, List.take_of_length_le (by rw [List.length_drop]; exact Nat.le_refl _)]
  · rw [Nat.min_eq_right (by omega), List.drop_of_length_le (Nat.le_refl _), List.drop_of_length_le (by omega), List.take_nil]
theorem cutV_take (xs : List V) (k : Nat) : cutV xs none (some (k : Int)) = xs.take k := by
  unfold cutV
  rw [HT.sIx_nat xs.length xs.length k, HT.sIx_none]
  show (xs.drop 0).take (min k xs.length - 0) = xs.take k
  rw [List.drop_zero, Nat.sub_zero]
  by_cases h : k ≤ xs.length
  · rw [Nat.min_eq_left h]
  · rw [Nat.min_eq_right (by omega), List.take_of_length_le (Nat.le_refl _), List.take_of_length_le (by omega)]
section
variable {X : Cx}
/-- a, b = a pair -/
theorem pg_two {K : PySem.W.Frag} {i j : Nat} {x y : Str} {px py pos : Pos} {k : Nat} (hK : X.K = K) (hc : X.calm = true) (hN : X.N.Nodup) (hi : X.N[i]? = some x) (hj : X.N[j]? = some y) (hx : Loc X.env.scope x) (hy : Loc X.env.scope y)
    (f1 : X.fn x = true ∨ X.env.scope.names.lookup x = some .local := by first | exact .inl rfl | exact .inr rfl)
    (f2 : X.fn y = true ∨ X.env.scope.names.lookup y = some .local := by first | exact .inl rfl | exact .inr rfl) :
    PG X (.Tuple [.Name x px, .Name y py] k pos) (gTup K 2 (gCons (gName i) (gCons (gName j) gNil))) := by
  subst hK
  exact pg_tup hc (pgs_cons (pg_name hN hi hx f1) (pgs_cons (pg_name hN hj hy f2) pgs_nil))
/-- t[k:], a tuple: what is behind, wherever it stands -/
theorem sl_drop : SlR X (fun x lo hi H Q => ∃ (a : Addr) (xs : List V) (k : Nat), x = .ref a ∧ lo = some (k : Int) ∧ hi = none ∧ H a = some (.tup xs) ∧ ∀ p H', Same H H' → H' p = some (.tup (xs.drop k)) → Q (.ref p) H') := by
  intro pins s σ H x v vl vu lo hi sl Q I rx hs pl pu h
  obtain ⟨a, xs, k, rfl, rfl, rfl, ha, q⟩ := h
  refine sl_tupA pins s σ H _ v vl vu _ _ sl Q I rx hs pl pu ⟨a, xs, rfl, .inl (.inl ha), fun z => q a H (Same.refl H) ?_, fun _ p hp => q p _ (sameNew hp) (by rw [upd_same, cutV_drop])⟩
  rw [ha, ← cutV_drop xs k]
  unfold cutV
  rw [z.1, z.2, Nat.sub_zero, List.drop_zero, List.take_length]
/-- t[:k] -/
theorem sl_take : SlR X (fun x lo hi H Q => ∃ (a : Addr) (xs : List V) (k : Nat), x = .ref a ∧ lo = none ∧ hi = some (k : Int) ∧ H a = some (.tup xs) ∧ ∀ p H', Same H H' → H' p = some (.tup (xs.take k)) → Q (.ref p) H') := by
  intro pins s σ H x v vl vu lo hi sl Q I rx hs pl pu h
  obtain ⟨a, xs, k, rfl, rfl, rfl, ha, q⟩ := h
  refine sl_tupA pins s σ H _ v vl vu _ _ sl Q I rx hs pl pu ⟨a, xs, rfl, .inl (.inl ha), fun z => q a H (Same.refl H) ?_, fun _ p hp => q p _ (sameNew hp) (by rw [upd_same, cutV_take])⟩
  rw [ha, ← cutV_take xs k]
  unfold cutV
  rw [z.1, z.2, Nat.sub_zero, List.drop_zero, List.take_length]
/-- t + u, tuples -/
theorem op_catS : OpR X (binaryOp .Add) (fun x y H Q => ∃ (a b : Addr) (xs ys : List V), x = .ref a ∧ y = .ref b ∧ H a = some (.tup xs) ∧ H b = some (.tup ys) ∧ xs.length + ys.length ≤ 1000 ∧
    ∀ p H', Same H H' → H' p = some (.tup (xs ++ ys)) → Q (.ref p) H') := by
  intro pins s σ H x y v u Q I rx ry h
  obtain ⟨a, b, xs, ys, rfl, rfl, ha, hb, hl, q⟩ := h
  refine op_catA pins s σ H _ _ v u Q I rx ry ⟨a, b, xs, ys, rfl, rfl, .inl (.inl ha), .inl (.inl hb), Nat.le_of_lt (small1000 hl), fun e => ?_, fun _ e => ?_, fun _ _ p hp => q p _ (sameNew hp) upd_same⟩
  · subst e
    exact q b H (Same.refl H) hb
  · subst e
    exact q a H (Same.refl H) (by rw [List.append_nil]; exact ha)
/-- t[i], xs[i] of what is tracked (no word of the written part, so that it stands in a comprehension) -/
theorem ix_tupH : IxR X (fun x y H Q => ∃ (p : Addr) (xs : List V) (i : Int) (v : V), x = .ref p ∧ y = .int i ∧ H p = some (.tup xs) ∧ atI xs i = some v ∧ Q v H) := by
  intro ve se pins s σ H x y xv yv Q I rx ry h e
  obtain ⟨p, xs, i, v, e1, e2, hp, e3, q⟩ := h
  exact ix_tup ve se pins s σ H x y xv yv Q I rx ry ⟨p, xs, i, v, e1, e2, .inl (.inl hp), e3, q⟩ e
theorem ix_listH : IxR X (fun x y H Q => ∃ (p : Addr) (xs : List V) (i : Int) (v : V), x = .ref p ∧ y = .int i ∧ H p = some (.lst xs) ∧ atI xs i = some v ∧ Q v H) := by
  intro ve se pins s σ H x y xv yv Q I rx ry h e
  obtain ⟨p, xs, i, v, e1, e2, hp, e3, q⟩ := h
  exact ix_list ve se pins s σ H x y xv yv Q I rx ry ⟨p, xs, i, v, e1, e2, .inl (.inl hp), e3, q⟩ e
theorem cr_sumH (hc : X.calm = true) : CallR X (.builtin "sum") (fun vs H Q => ∃ (a : Addr) (ns : List Int), vs = [V.ref a] ∧ H a = some (.lst (ns.map V.int)) ∧ Q (.int ns.sum) H) := by
  intro pins s σ H xs us Q I r h
  obtain ⟨a, ns, e, ha, q⟩ := h
  exact cr_sum hc pins s σ H xs us Q I r ⟨a, ns, e, .inl (.inl ha), q⟩
theorem call_listL : CallR X (.type "list") (fun xs H Q => ∃ (p : Addr) (ys : List V), xs = [.ref p] ∧ H p = some (.lst ys) ∧ ∀ l, H l = none → Q (.ref l) (upd H l (.lst ys))) := by
  intro pins s σ H xs us Q I r h
  obtain ⟨p, ys, e, hp, q⟩ := h
  exact call_list_of pins s σ H xs us Q I r ⟨p, ys, e, .inl (.inl (.inl hp)), q⟩
/-- tuple(xs) of a list: a new tuple -/
theorem call_tupL : CallR X (.type "tuple") (fun xs H Q => ∃ (p : Addr) (ys : List V), xs = [.ref p] ∧ H p = some (.lst ys) ∧ ∀ l H', Same H H' → H' l = some (.tup ys) → Q (.ref l) H') := by
  intro pins s σ H xs us Q I r h
  obtain ⟨p, ys, rfl, hp, q⟩ := h
  exact call_tuple_of pins s σ H _ us Q I r ⟨p, ys, rfl, .inl ⟨.inl (.inl hp), fun l hl => q l _ (sameNew hl) upd_same⟩⟩
end
end CK

set_option Elab.async false
set_option linter.all false
set_option maxRecDepth 100000
set_option maxHeartbeats 2000000
/-! the laws' generator of numbers: a list of three whole numbers -/
namespace CK
open PySem PySem.Spec PyProof.Rows L2
/-- the generator at g, from which n more numbers may be drawn -/
def Gn (n : Nat) (H : Hp) (g : Addr) : Prop := ∃ a b c : Int, H g = some (.lst [.int a, .int b, .int c]) ∧ 0 ≤ a ∧ 0 ≤ b ∧ b < 2 ^ 31 ∧ 0 ≤ c ∧ c + 8 * n ≤ 2 ^ 40
theorem Gn.le {n m : Nat} {H : Hp} {g : Addr} (h : Gn n H g) (hm : m ≤ n) : Gn m H g := by
  obtain ⟨a, b, c, h1, h2, h3, h4, h5, h6⟩ := h
  exact ⟨a, b, c, h1, h2, h3, h4, h5, by omega⟩
theorem Gn.same {n : Nat} {H H' : Hp} {g : Addr} (h : Gn n H g) (s : Same H H') : Gn n H' g := by
  obtain ⟨a, b, c, h1, r⟩ := h
  exact ⟨a, b, c, s _ _ h1, r⟩
theorem Gn.at {n : Nat} {H : Hp} {g : Addr} (h : Gn n H g) : ∃ xs, H g = some (.lst xs) := by
  obtain ⟨a, b, c, h1, r⟩ := h
  exact ⟨_, h1⟩
theorem Gn.ne {n : Nat} {H : Hp} {g D : Addr} (h : Gn n H g) (hD : H D = none) : D ≠ g := fun e => by
  obtain ⟨xs, h1⟩ := h.at
  rw [e, h1] at hD
  cases hD
theorem Gn.upd {n : Nat} {H : Hp} {g D : Addr} {o : HO} (h : Gn n H g) (hD : D ≠ g) : Gn n (upd H D o) g := by
  obtain ⟨a, b, c, h1, r⟩ := h
  exact ⟨a, b, c, by rw [upd_ne (Ne.symm hD)]; exact h1, r⟩
theorem sameX_new {g : Addr} {H : Hp} {D : Addr} {o : HO} (hD : H D = none) : SameX g H (L2.upd H D o) := .of (sameNew hD)
theorem SameX.upd2 {g D : Addr} {H H1 : Hp} {o : HO} (s : SameX g H H1) (hD : H D = none) : SameX g H (L2.upd H1 D o) := fun b z n e => by
  rw [upd_ne (ne_of_none e hD)]
  exact s b z n e
theorem SameX.tup {g a : Addr} {H H' : Hp} {xs : List V} {n : Nat} (s : SameX g H H') (G : Gn n H g) (h : H a = some (.tup xs)) : H' a = some (.tup xs) := s a _ (fun e => by
  obtain ⟨ys, h1⟩ := G.at
  rw [e, h1] at h
  cases h) h
theorem ix_at {n j : Nat} (h : j < n) : ixN n (j : Int) = some j := by
  unfold ixN
  rw [if_pos (by omega), if_pos (by omega)]
  rfl
/-- a comprehension that draws: its numbers stay within most -/
theorem lcD_draw {lo : Int} {g : Addr} {n cnt j : Nat} {most : Int} {te : TE} {vs : List Nat} {σ : L2.St} {H1 : Hp} {D : Addr} {Qd : Hp → Prop} (hc : cnt < sizeLine) (hD : H1 D = none) (hg : Gn (n + cnt) H1 g)
    (hs : ∀ (i : Nat) (H : Hp) (R : VK), i < cnt → SameX g H1 H → Gn (n + (cnt - (i + 1)) + 1) H g → (∀ (r : Int) H', SameX g H H' → Gn (n + (cnt - (i + 1))) H' g → 0 ≤ r → r ≤ most → R (.int r) H') →
      wipe ((wipe σ vs).set j (some (.int (lo + i)))) vs = wipe σ vs ∧ te ((wipe σ vs).set j (some (.int (lo + i)))) H R)
    (hd : ∀ (H : Hp) (ns : List Int), SameX g H1 H → Gn n H g → H D = some (.lst (ns.map V.int)) → ns.length = cnt → (∀ x ∈ ns, 0 ≤ x ∧ x ≤ most) → Qd H) :
    ∃ W : Nat → Nat → Hp → Prop, (∃ m, W 0 m (L2.upd H1 D (.lst []))) ∧ ∀ i m H, W i m H →
      ((Itr lo cnt).stop i H ∧ Qd H) ∨ ((Itr lo cnt).go i H ∧ ∃ Nx : Hp → Prop, (∀ H', Nx H' → ∃ m', m' < m ∧ W (i + 1) m' H') ∧ ∀ x H', (Itr lo cnt).yld i H x H' → gName j x (wipe σ vs) H' fun σ2 H2 => wipe σ2 vs = wipe σ vs ∧ tYes σ2 H2 fun b H3 =>
        if b = true then te σ2 H3 fun y H4 => ∃ acc, H4 D = some (.lst acc) ∧ acc.length < sizeLine ∧ Nx (L2.upd H4 D (.lst (acc ++ [y]))) else Nx H3) := by
  have hDg := hg.ne hD
  refine lc_range (fun i H => SameX g H1 H ∧ Gn (n + (cnt - i)) H g ∧ i ≤ cnt ∧ ∃ ns : List Int, H D = some (.lst (ns.map V.int)) ∧ ns.length = i ∧ ∀ x ∈ ns, 0 ≤ x ∧ x ≤ most)
    ⟨sameX_new hD, hg.upd hDg, Nat.zero_le _, [], upd_same, rfl, fun x h => absurd h List.not_mem_nil⟩ (fun i H hi p => ?_) fun H p => ?_
  · obtain ⟨s, G, _, ns, hL, hl, hb⟩ := p
    have G1 : Gn (n + (cnt - (i + 1)) + 1) H g := by
      have e : n + (cnt - (i + 1)) + 1 = n + (cnt - i) := by omega
      rw [e]
      exact G
    refine hs i H _ hi s G1 fun r H' s' G' h0 h1 => ⟨_, s' D _ hDg hL, by rw [List.length_map]; omega, (s.trans s').upd2 hD, G'.upd hDg, hi, ns ++ [r], ?_, ?_, fun x hx => ?_⟩
    · rw [upd_same, List.map_append]
      rfl
    · rw [List.length_append, hl]
      rfl
    · rcases List.mem_append.mp hx with z | z
      · exact hb x z
      · rw [List.mem_singleton.mp z]
        exact ⟨h0, h1⟩
  · obtain ⟨s, G, _, ns, hL, hl, hb⟩ := p
    rw [Nat.sub_self] at G
    exact hd H ns s G hL hl hb
end CK

set_option Elab.async false
set_option linter.all false
set_option maxRecDepth 100000
set_option maxHeartbeats 2000000
namespace CK
open PySem PySem.Spec PyProof.Rows L2
/-! ### data that are compared -/
def dI (ns : List Int) : PyData := .tuple (ns.map PyData.int)
theorem lay_ints : ∀ ns : List Int, PyData.canLayAll0 (ns.map PyData.int) = true
  | [] => by simp [PyData.canLayAll0]
  | n :: ns => by
    rw [List.map_cons, PyData.canLayAll0, lay_ints ns]
    simp [PyData.canLay0]
theorem deep_ints : ∀ ns : List Int, PyData.depthAll (ns.map PyData.int) = 0
  | [] => by simp [PyData.depthAll]
  | n :: ns => by
    rw [List.map_cons, PyData.depthAll, deep_ints ns]
    simp [PyData.depth]
theorem lay_dI (ns : List Int) : (dI ns).canLay0 = true := by
  unfold dI
  rw [PyData.canLay0]
  exact lay_ints ns
theorem deep_dI (ns : List Int) : (dI ns).depth = 1 := by
  unfold dI
  rw [PyData.depth, deep_ints]
theorem shaped_dI (ns : List Int) : SeqAt.shaped (dI ns) = true := by
  unfold SeqAt.shaped
  rw [lay_dI, deep_dI]
  rfl
theorem lay_forms : ∀ fs : List (List Int), PyData.canLayAll0 (fs.map dI) = true
  | [] => by simp [PyData.canLayAll0]
  | f :: fs => by
    rw [List.map_cons, PyData.canLayAll0, lay_forms fs, lay_dI]
    rfl
theorem deep_forms : ∀ fs : List (List Int), PyData.depthAll (fs.map dI) ≤ 1
  | [] => by simp [PyData.depthAll]
  | f :: fs => by
    have := deep_forms fs
    rw [List.map_cons, PyData.depthAll, deep_dI]
    omega
theorem shaped_forms (fs : List (List Int)) : SeqAt.shaped (.list (fs.map dI)) = true := by
  unfold SeqAt.shaped
  rw [PyData.canLay0, lay_forms, PyData.depth]
  have := deep_forms fs
  rw [decide_eq_true (by omega)]
  rfl
section
variable {K : PySem.W.Frag} {H : Hp}
theorem dpAll_ints : ∀ ns : List Int, DpAll K H (ns.map V.int) (ns.map PyData.int)
  | [] => .nil
  | n :: ns => .cons (.int n) (dpAll_ints ns)
theorem dp_ints {a : Addr} {ns : List Int} (h : H a = some (.tup (ns.map V.int))) : Dp K H (.ref a) (dI ns) := .tup (.inl (.inl h)) (dpAll_ints ns)
end
section
variable {X : Cx}
/-- x != y, of equal data -/
theorem op_neSame (hu : X.A.units + 64 < cLine) : OpR X (compareOp .NotEq) (fun x y H Q => ∃ d, Dp X.K H x d ∧ Dp X.K H y d ∧ SeqAt.shaped d = true ∧ Q (.bl false) H) := by
  intro pins s σ H x y v u Q I rx ry h
  obtain ⟨d, h1, h2, h3, q⟩ := h
  refine op_neD hu pins s σ H x y v u Q I rx ry ⟨d, d, h1, h2, h3, h3, ?_⟩
  rw [SeqAt.eqv_refl d (SeqAt.canLay_of_shaped h3)]
  exact q
end
/-! ### comprehensions that map, by the turn's number -/
theorem lcZ_mapI {K : PySem.W.Frag} {k k' : Kd} {a b : Addr} {xs ys : List V} {i1 i2 : Nat} {te : TE} {vs : List Nat} {σ : L2.St} {H1 : Hp} {D : Addr} {Qd : Hp → Prop} (f : Nat → V) (hl : xs.length = ys.length) (hn : xs.length < sizeLine)
    (ha : ∀ H, Same H1 H → SqB K k H a xs ∧ SqB K k' H b ys)
    (hs : ∀ (i : Nat) (x y : V) (H : Hp) (R : VK), xs[i]? = some x → ys[i]? = some y → Same H1 H → (∀ H', Same H H' → R (f i) H') → wipe (((wipe σ vs).set i1 (some x)).set i2 (some y)) vs = wipe σ vs ∧ te (((wipe σ vs).set i1 (some x)).set i2 (some y)) H R)
    (hD : H1 D = none) (hd : ∀ H : Hp, Same H1 H → H D = some (.lst ((List.range xs.length).map f)) → Qd H) :
    ∃ W : Nat → Nat → Hp → Prop, (∃ m, W 0 m (upd H1 D (.lst []))) ∧ ∀ i m H, W i m H →
      ((ItB K k k' a b).stop i H ∧ Qd H) ∨ ((ItB K k k' a b).go i H ∧ ∃ Nx : Hp → Prop, (∀ H', Nx H' → ∃ m', m' < m ∧ W (i + 1) m' H') ∧ ∀ x H', (ItB K k k' a b).yld i H x H' → gTup K 2 (gCons (gName i1) (gCons (gName i2) gNil)) x (wipe σ vs) H' fun σ2 H2 => wipe σ2 vs = wipe σ vs ∧ tYes σ2 H2 fun b H3 =>
        if b = true then te σ2 H3 fun y H4 => ∃ acc, H4 D = some (.lst acc) ∧ acc.length < sizeLine ∧ Nx (upd H4 D (.lst (acc ++ [y]))) else Nx H3) := by
  refine lc_mapW (walkB (K := K) (k := k) (k' := k') (a := a) (b := b) hl) f hn ha (fun i v H H' R hi s y q => ?_) hD hd
  obtain ⟨T, x, y, rfl, hT, rfl, hx, hy⟩ := y
  have hx : xs[i]? = some x := hx
  have hy : ys[i]? = some y := hy
  have st : Same H (upd H T (.tup [x, y])) := sameNew hT
  exact ⟨T, [x, y], rfl, .inl (.inl upd_same), rfl, x, [y], rfl, y, [], rfl, rfl, hs i x y _ R hx hy (s.trans st) fun H'' s' => q H'' (st.trans s')⟩
theorem lcL_mapI {K : PySem.W.Frag} {a : Addr} {xs : List V} {j : Nat} {te : TE} {vs : List Nat} {σ : L2.St} {H1 : Hp} {D : Addr} {Qd : Hp → Prop} (f : Nat → V) (ha : H1 a = some (.lst xs)) (hn : xs.length < sizeLine)
    (hs : ∀ (i : Nat) (x : V) (H : Hp) (R : VK), xs[i]? = some x → Same H1 H → (∀ H', Same H H' → R (f i) H') → wipe ((wipe σ vs).set j (some x)) vs = wipe σ vs ∧ te ((wipe σ vs).set j (some x)) H R)
    (hD : H1 D = none) (hd : ∀ H : Hp, Same H1 H → H D = some (.lst ((List.range xs.length).map f)) → Qd H) :
    ∃ W : Nat → Nat → Hp → Prop, (∃ m, W 0 m (upd H1 D (.lst []))) ∧ ∀ i m H, W i m H →
      ((Itl K a).stop i H ∧ Qd H) ∨ ((Itl K a).go i H ∧ ∃ Nx : Hp → Prop, (∀ H', Nx H' → ∃ m', m' < m ∧ W (i + 1) m' H') ∧ ∀ x H', (Itl K a).yld i H x H' → gName j x (wipe σ vs) H' fun σ2 H2 => wipe σ2 vs = wipe σ vs ∧ tYes σ2 H2 fun b H3 =>
        if b = true then te σ2 H3 fun y H4 => ∃ acc, H4 D = some (.lst acc) ∧ acc.length < sizeLine ∧ Nx (upd H4 D (.lst (acc ++ [y]))) else Nx H3) := by
  refine lc_mapW (walk_list (K := K) (a := a) (xs := xs)) f hn (fun H s => .inl (.inl (s _ _ ha))) (fun i x H H' R hi s y q => ?_) hD hd
  obtain ⟨rfl, hx⟩ := y
  exact hs i x H' R hx s q
end CK

set_option Elab.async false
set_option linter.all false
set_option maxRecDepth 100000
set_option maxHeartbeats 4000000
namespace K11
open PySem PySem.Spec PyProof.Rows L2 CK
def topS (i : Nat) : Stmt := PySem.Challenge.pw_countscribe_k11_forms.main.body.getD i (.Pass ⟨0, 0, 0, 0⟩)
theorem sc_is_whole : FnScope ["value"] ["value"] (C8.fnScope (topS 9)) := C8.fnScope_by (by decide +kernel)
theorem sc_is_count : FnScope ["value"] ["value"] (C8.fnScope (topS 10)) := C8.fnScope_by (by decide +kernel)
theorem sc_is_within : FnScope ["value", "low", "high"] ["value", "low", "high"] (C8.fnScope (topS 11)) := C8.fnScope_by (by decide +kernel)
theorem sc_is_counts : FnScope ["value", "many", "number"] ["value", "many"] (C8.fnScope (topS 12)) := C8.fnScope_by (by decide +kernel)
theorem sc_need_count : FnScope ["value"] ["value"] (C8.fnScope (topS 13)) := C8.fnScope_by (by decide +kernel)
theorem sc_need_within : FnScope ["value", "low", "high"] ["value", "low", "high"] (C8.fnScope (topS 14)) := C8.fnScope_by (by decide +kernel)
theorem sc_need_many : FnScope ["value"] ["value"] (C8.fnScope (topS 15)) := C8.fnScope_by (by decide +kernel)
theorem sc_need_point : FnScope ["value", "many"] ["value", "many"] (C8.fnScope (topS 16)) := C8.fnScope_by (by decide +kernel)
theorem sc_is_form_for : FnScope ["many", "value", "number"] ["many", "value"] (C8.fnScope (topS 18)) := C8.fnScope_by (by decide +kernel)
theorem sc_is_some_form : FnScope ["value"] ["value"] (C8.fnScope (topS 19)) := C8.fnScope_by (by decide +kernel)
theorem sc_need_form : FnScope ["value"] ["value"] (C8.fnScope (topS 20)) := C8.fnScope_by (by decide +kernel)
theorem sc_is_forms : FnScope ["value", "size", "many", "form"] ["value", "size", "many"] (C8.fnScope (topS 21)) := C8.fnScope_by (by decide +kernel)
theorem sc_plain_form : FnScope ["number", "many"] ["number", "many"] (C8.fnScope (topS 22)) := C8.fnScope_by (by decide +kernel)
theorem sc_form_value : FnScope ["form", "point", "number", "count"] ["form", "point"] (C8.fnScope (topS 23)) := C8.fnScope_by (by decide +kernel)
theorem sc_form_sum : FnScope ["one", "other", "left", "right"] ["one", "other"] (C8.fnScope (topS 24)) := C8.fnScope_by (by decide +kernel)
theorem sc_form_times : FnScope ["number", "form", "own"] ["number", "form"] (C8.fnScope (topS 25)) := C8.fnScope_by (by decide +kernel)
theorem sc_form_inserted : FnScope ["form", "many", "forms", "result", "number", "other"] ["form", "many", "forms"] (C8.fnScope (topS 26)) := C8.fnScope_by (by decide +kernel)
theorem sc_at_most : FnScope ["one", "other", "left", "right"] ["one", "other"] (C8.fnScope (topS 27)) := C8.fnScope_by (by decide +kernel)
theorem sc_is_form : FnScope ["many", "value"] ["many", "value"] (C8.fnScope (topS 29)) := C8.fnScope_by (by decide +kernel)
theorem sc_need_two_forms : FnScope ["one", "other"] ["one", "other"] (C8.fnScope (topS 30)) := C8.fnScope_by (by decide +kernel)
theorem sc_value : FnScope ["form", "point"] ["form", "point"] (C8.fnScope (topS 31)) := C8.fnScope_by (by decide +kernel)
theorem sc_added : FnScope ["one", "other"] ["one", "other"] (C8.fnScope (topS 32)) := C8.fnScope_by (by decide +kernel)
theorem sc_scaled : FnScope ["number", "form"] ["number", "form"] (C8.fnScope (topS 33)) := C8.fnScope_by (by decide +kernel)
theorem sc_below : FnScope ["one", "other"] ["one", "other"] (C8.fnScope (topS 34)) := C8.fnScope_by (by decide +kernel)
theorem sc_inserted : FnScope ["form", "many", "forms"] ["form", "many", "forms"] (C8.fnScope (topS 35)) := C8.fnScope_by (by decide +kernel)
theorem sc_law_hash : FnScope ["_law_seed", "_law_index", "_law_mixed"] ["_law_seed", "_law_index"] (C8.fnScope (topS 37)) := C8.fnScope_by (by decide +kernel)
theorem sc_law_random : FnScope ["_law_generator_here", "_law_bound", "_law_drawn", "_law_turn"] ["_law_generator_here", "_law_bound"] (C8.fnScope (topS 38)) := C8.fnScope_by (by decide +kernel)
theorem sc_law_cell : FnScope ["_law_script", "_law_index"] ["_law_script", "_law_index"] (C8.fnScope (topS 39)) := C8.fnScope_by (by decide +kernel)
theorem sc_law_generator : FnScope ["_law_script", "_law_index", "_law_seed"] ["_law_script", "_law_index"] (C8.fnScope (topS 40)) := C8.fnScope_by (by decide +kernel)
theorem sc_law_form : FnScope ["_law_generator_here", "_law_many", "_law_most", "_law_turn"] ["_law_generator_here", "_law_many", "_law_most"] (C8.fnScope (topS 41)) := C8.fnScope_by (by decide +kernel)
theorem sc_law_value : FnScope ["_law_form_here", "_law_point_here", "_law_number", "_law_count"] ["_law_form_here", "_law_point_here"] (C8.fnScope (topS 42)) := C8.fnScope_by (by decide +kernel)
theorem sc_law_point : FnScope ["_law_generator_here", "_law_many", "_law_most", "_law_turn"] ["_law_generator_here", "_law_many", "_law_most"] (C8.fnScope (topS 43)) := C8.fnScope_by (by decide +kernel)
theorem sc_law_yes : FnScope ["_law_told", "_law_due"] ["_law_told", "_law_due"] (C8.fnScope (topS 44)) := C8.fnScope_by (by decide +kernel)
theorem sc_law_point_above : FnScope ["_law_one", "_law_other", "_law_at", "_law_place"] ["_law_one", "_law_other"] (C8.fnScope (topS 45)) := C8.fnScope_by (by decide +kernel)
theorem sc_law_near : FnScope ["_law_generator_here", "_law_form_here", "_law_most", "_law_some", "_law_way", "_law_at", "_law_near_here"] ["_law_generator_here", "_law_form_here", "_law_most"] (C8.fnScope (topS 46)) := C8.fnScope_by (by decide +kernel)
theorem sc_law_is_whole : FnScope ["_law_value_told", "_law_due"] ["_law_value_told", "_law_due"] (C8.fnScope (topS 47)) := C8.fnScope_by (by decide +kernel)
theorem sc_law_right : FnScope ["_law_generator_here", "_law_many", "_law_inner", "_law_most", "_law_one", "_law_other", "_law_point_here", "_law_number", "_law_forms", "_law_turn", "_law_low", "_law_high", "_law_item", "_law_shown", "_law_given", "_law_place", "_law_told", "_law_due", "_law_step", "_law_form_here", "_law_at", "_law_spoilt", "_law_wrong"] ["_law_generator_here"] (C8.fnScope (topS 48)) := C8.fnScope_by (by decide +kernel)
theorem sc_law : FnScope ["_law_script", "_law_index"] ["_law_script"] (C8.fnScope (topS 49)) := C8.fnScope_by (by decide +kernel)
structure Txt (K : PySem.W.Frag) (mg : Str → Option Value) : Prop where
  d_is_whole : DefF K mg "is_whole" (topS 9) ["value"]
  d_is_count : DefF K mg "is_count" (topS 10) ["value"]
  d_is_within : DefF K mg "is_within" (topS 11) ["value", "low", "high"]
  d_is_counts : DefF K mg "is_counts" (topS 12) ["value", "many"]
  d_need_count : DefF K mg "need_count" (topS 13) ["value"]
  d_need_within : DefF K mg "need_within" (topS 14) ["value", "low", "high"]
  d_need_many : DefF K mg "need_many" (topS 15) ["value"]
  d_need_point : DefF K mg "need_point" (topS 16) ["value", "many"]
  d_is_form_for : DefF K mg "is_form_for" (topS 18) ["many", "value"]
  d_is_some_form : DefF K mg "is_some_form" (topS 19) ["value"]
  d_need_form : DefF K mg "need_form" (topS 20) ["value"]
  d_is_forms : DefF K mg "is_forms" (topS 21) ["value", "size", "many"]
  d_plain_form : DefF K mg "plain_form" (topS 22) ["number", "many"]
  d_form_value : DefF K mg "form_value" (topS 23) ["form", "point"]
  d_form_sum : DefF K mg "form_sum" (topS 24) ["one", "other"]
  d_form_times : DefF K mg "form_times" (topS 25) ["number", "form"]
  d_form_inserted : DefF K mg "form_inserted" (topS 26) ["form", "many", "forms"]
  d_at_most : DefF K mg "at_most" (topS 27) ["one", "other"]
  d_is_form : DefF K mg "is_form" (topS 29) ["many", "value"]
  d_need_two_forms : DefF K mg "need_two_forms" (topS 30) ["one", "other"]
  d_value : DefF K mg "value" (topS 31) ["form", "point"]
  d_added : DefF K mg "added" (topS 32) ["one", "other"]
  d_scaled : DefF K mg "scaled" (topS 33) ["number", "form"]
  d_below : DefF K mg "below" (topS 34) ["one", "other"]
  d_inserted : DefF K mg "inserted" (topS 35) ["form", "many", "forms"]
  d_law_hash : DefF K mg "_law_hash" (topS 37) ["_law_seed", "_law_index"]
  d_law_random : DefF K mg "_law_random" (topS 38) ["_law_generator_here", "_law_bound"]
  d_law_cell : DefF K mg "_law_cell" (topS 39) ["_law_script", "_law_index"]
  d_law_generator : DefF K mg "_law_generator" (topS 40) ["_law_script", "_law_index"]
  d_law_form : DefF K mg "_law_form" (topS 41) ["_law_generator_here", "_law_many", "_law_most"]
  d_law_value : DefF K mg "_law_value" (topS 42) ["_law_form_here", "_law_point_here"]
  d_law_point : DefF K mg "_law_point" (topS 43) ["_law_generator_here", "_law_many", "_law_most"]
  d_law_yes : DefF K mg "_law_yes" (topS 44) ["_law_told", "_law_due"]
  d_law_point_above : DefF K mg "_law_point_above" (topS 45) ["_law_one", "_law_other"]
  d_law_near : DefF K mg "_law_near" (topS 46) ["_law_generator_here", "_law_form_here", "_law_most"]
  d_law_is_whole : DefF K mg "_law_is_whole" (topS 47) ["_law_value_told", "_law_due"]
  d_law_right : DefF K mg "_law_right" (topS 48) ["_law_generator_here"]
  d_law : DefF K mg "law" (topS 49) ["_law_script"]
  m_all : mg "all" = none
  m_bool : mg "bool" = none
  m_int : mg "int" = none
  m_isinstance : mg "isinstance" = none
  m_len : mg "len" = none
  m_list : mg "list" = none
  m_max : mg "max" = none
  m_range : mg "range" = none
  m_str : mg "str" = none
  m_sum : mg "sum" = none
  m_tuple : mg "tuple" = none
  m_zip : mg "zip" = none
  k_MOST_UNKNOWNS : ∃ u, mg "MOST_UNKNOWNS" = some u ∧ RelV (.int 3) u
end K11

set_option Elab.async false
set_option linter.all false
set_option maxRecDepth 100000
set_option maxHeartbeats 2000000
namespace K11
open PySem PySem.Spec PyProof.Rows L2 CK
section
variable {P : Program} {w : World} {K : PySem.W.Frag} {mg : Str → Option Value} {base : Heap}
/-! ### checks -/
def sp_is_whole : Sp := fun vs H Q _ => ∃ v, vs = [v] ∧ Kn H v ∧ Q (.bl (isW v)) H
theorem c_is_whole (T : Txt K mg) : C8.Cal P w K mg base 1 "is_whole" sp_is_whole [] := by
  refine calF T.d_is_whole sc_is_whole (fun vs H Q E h => ?_) (fun f cdv A outer s H vs Q E hr h => ?_)
  · obtain ⟨v, rfl, _⟩ := h; rfl
  · obtain ⟨v, rfl, k, q⟩ := h
    refine ⟨_, (pss_one (ps_ret (pe_and (pe_callB call_isK (by rfl) T.m_isinstance (by decide +kernel) (pa_cons (pv 0) (pa_cons (pe_bltn (v := .ty "int") (by rfl) T.m_int (by decide +kernel) rfl) pa_nil))) (pe_one (pe_not (pe_callB call_isK (by rfl) T.m_isinstance (by decide +kernel) (pa_cons (pv 0) (pa_cons (pe_bltn (v := .ty "bool") (by rfl) T.m_bool (by decide +kernel) rfl) pa_nil)))))))), ?_⟩
    refine ⟨v, rfl, v, "int", _, rfl, k, kit_int k, _, rfl, ite2 (fun e => ?_) (fun e => ?_)⟩
    · refine ⟨v, rfl, v, "bool", _, rfl, k, kit_bool k, _, rfl, ?_⟩
      rw [show (!isBo v) = isW v by cases v <;> first | rfl | (exact absurd e Bool.false_ne_true)]
      exact q
    · rw [show false = isW v by cases v <;> first | rfl | (exact absurd rfl e)]
      exact q
def sp_is_count : Sp := fun vs H Q _ => ∃ v, vs = [v] ∧ Kn H v ∧ Q (.bl (isC v)) H
theorem c_is_count (T : Txt K mg) : C8.Cal P w K mg base 2 "is_count" sp_is_count [] := by
  refine calF T.d_is_count sc_is_count (fun vs H Q E h => ?_) (fun f cdv A outer s H vs Q E hr h => ?_)
  · obtain ⟨v, rfl, _⟩ := h; rfl
  · obtain ⟨v, rfl, k, q⟩ := h
    refine ⟨_, (pss_one (ps_ret (pe_and (C8.pe_c (c_is_whole T) hr (by decide) (by rfl) (pa_cons (pv 0) pa_nil)) (pe_one (pe_cmpR op_ge (pv 0) pe_int (nomark _)))))), ?_⟩
    refine ⟨v, rfl, v, rfl, k, _, rfl, ite2 (fun e => ?_) (fun e => ?_)⟩
    · cases v <;> first | (exact absurd e Bool.false_ne_true) | exact ⟨_, rfl, _, 0, rfl, rfl, q⟩
    · rw [show false = isC v by cases v <;> first | rfl | (exact absurd rfl e)]
      exact q
def sp_is_within : Sp := fun vs H Q _ => ∃ i lo hi : Int, vs = [.int i, .int lo, .int hi] ∧ Q (.bl (decide (lo ≤ i) && decide (i ≤ hi))) H
theorem c_is_within (T : Txt K mg) : C8.Cal P w K mg base 2 "is_within" sp_is_within [] := by
  refine calF T.d_is_within sc_is_within (fun vs H Q E h => ?_) (fun f cdv A outer s H vs Q E hr h => ?_)
  · obtain ⟨i, lo, hi, rfl, _⟩ := h; rfl
  · obtain ⟨i, lo, hi, rfl, q⟩ := h
    refine ⟨_, (pss_one (ps_ret (pe_and (C8.pe_c (c_is_whole T) hr (by decide) (by rfl) (pa_cons (pv 0) pa_nil)) (pe_one (pe_chain op_le op_le (pv 1) (pv 0) (pv 2)))))), ?_⟩
    refine ⟨.int i, rfl, .int i, rfl, .int i, _, rfl, iteT ?_⟩
    refine ⟨_, rfl, _, rfl, lo, i, rfl, rfl, _, rfl, ite2 (fun e => ?_) (fun e => ?_)⟩
    · refine ⟨_, rfl, i, hi, rfl, rfl, ?_⟩
      rw [e, Bool.true_and] at q
      exact q
    · rw [Bool.not_eq_true] at e
      rw [e, Bool.false_and] at q
      exact q
def sp_need_count : Sp := fun vs H Q _ => ∃ i : Int, vs = [.int i] ∧ 0 ≤ i ∧ Q .non H
theorem c_need_count (T : Txt K mg) : C8.Cal P w K mg base 3 "need_count" sp_need_count [] := by
  refine calF T.d_need_count sc_need_count (fun vs H Q E h => ?_) (fun f cdv A outer s H vs Q E hr h => ?_)
  · obtain ⟨v, rfl, _⟩ := h; rfl
  · obtain ⟨i, rfl, hi, q⟩ := h
    refine ⟨_, (pss_one (ps_if (pt_not (pt_val (C8.pe_c (c_is_count T) hr (by decide) (by rfl) (pa_cons (pv 0) pa_nil))))
    (pss_one ps_never)
    pss_nil)), ?_⟩
    refine ⟨.int i, rfl, .int i, rfl, .int i, _, rfl, ?_⟩
    rw [show isC (.int i) = true from decide_eq_true hi]
    exact iteF q
def sp_need_within : Sp := fun vs H Q _ => ∃ i lo hi : Int, vs = [.int i, .int lo, .int hi] ∧ lo ≤ i ∧ i ≤ hi ∧ Q .non H
theorem c_need_within (T : Txt K mg) : C8.Cal P w K mg base 3 "need_within" sp_need_within [] := by
  refine calF T.d_need_within sc_need_within (fun vs H Q E h => ?_) (fun f cdv A outer s H vs Q E hr h => ?_)
  · obtain ⟨i, lo, hi, rfl, _⟩ := h; rfl
  · obtain ⟨i, lo, hi, rfl, h1, h2, q⟩ := h
    refine ⟨_, (pss_one (ps_if (pt_not (pt_val (C8.pe_c (c_is_within T) hr (by decide) (by rfl) (pa_cons (pv 0) (pa_cons (pv 1) (pa_cons (pv 2) pa_nil))))))
    (pss_one ps_never)
    pss_nil)), ?_⟩
    refine ⟨_, rfl, _, rfl, _, rfl, i, lo, hi, rfl, _, rfl, ?_⟩
    rw [decide_eq_true h1, decide_eq_true h2]
    exact iteF q
def sp_need_many : Sp := fun vs H Q _ => ∃ i : Int, vs = [.int i] ∧ 0 ≤ i ∧ i ≤ 3 ∧ Q .non H
theorem c_need_many (T : Txt K mg) : C8.Cal P w K mg base 4 "need_many" sp_need_many [] := by
  refine calF T.d_need_many sc_need_many (fun vs H Q E h => ?_) (fun f cdv A outer s H vs Q E hr h => ?_)
  · obtain ⟨v, rfl, _⟩ := h; rfl
  · obtain ⟨i, rfl, h1, h2, q⟩ := h
    refine ⟨_, (pss_one (ps_expr (C8.pe_c (c_need_within T) hr (by decide) (by rfl) (pa_cons (pv 0) (pa_cons pe_int (pa_cons (C8.pe_gc (by rfl) T.k_MOST_UNKNOWNS) pa_nil)))))), ?_⟩
    exact ⟨_, rfl, i, 0, 3, rfl, h1, h2, q⟩
/-! a list of counts -/
def sp_is_counts : Sp := fun vs H Q _ => ∃ (a : Addr) (xs : List V) (m : Int), vs = [.ref a, .int m] ∧ H a = some (.lst xs) ∧ xs.length < sizeLine ∧ (∀ x ∈ xs, Kn H x) ∧
  ∀ H', Same H H' → Q (.bl (decide ((xs.length : Int) = m) && xs.all isC)) H'
theorem c_is_counts (T : Txt K mg) : C8.Cal P w K mg base 3 "is_counts" sp_is_counts [] := by
  refine calF T.d_is_counts sc_is_counts (fun vs H Q E h => ?_) (fun f cdv A outer s H vs Q E hr h => ?_)
  · obtain ⟨_, _, _, rfl, _⟩ := h; rfl
  · obtain ⟨a, xs, m, rfl, ha, hl, hk, q⟩ := h
    refine ⟨_, (pss_one (ps_ret (pe_and (pe_callB call_isK (by rfl) T.m_isinstance (by decide +kernel) (pa_cons (pv 0) (pa_cons (pe_bltn (v := .ty "list") (by rfl) T.m_list (by decide +kernel) rfl) pa_nil))) (pe_and (pe_cmpR op_eq (pe_callB call_len_seq (by rfl) T.m_len (by decide +kernel) (pa_cons (pv 0) pa_nil)) (pv 1) (nomark _)) (pe_one (pe_callB (cr_all rfl) (by rfl) T.m_all (by decide +kernel) (pa_cons (pe_lc (own := [("number", 2)]) (by rfl) sc_is_counts.nd (pi_list (pv 0)) (blkOk_by (N := ["value", "many", "number"]) (sc := C8.fnScope (topS 12)) (own := [("number", 2)]) (by decide +kernel)) (fun _ _ _ _ _ => (pg_name (i := 2) sc_is_counts.nd rfl (Or.inl rfl))) (fun _ _ _ _ _ => pts_nil) (fun _ _ _ _ _ => (C8.pe_c (c_is_count T) hr (by decide) (by rfl) (pa_cons (pv 2) pa_nil)))) pa_nil))))))), ?_⟩
    have kn : Kn H (.ref a) := .lst ha
    refine ⟨_, rfl, .ref a, "list", _, rfl, kn, kit_list kn, _, rfl, ?_⟩
    rw [isLi_lst ha]
    refine iteT ⟨_, rfl, a, xs, rfl, .inl (.inl (.inl ha)), _, rfl, rfl, _, rfl, ite2 (fun e => ?_) (fun e => ?_)⟩
    · have e' : (xs.length : Int) = m := V.int.inj (of_decide_eq_true e)
      rw [decide_eq_true e', Bool.true_and] at q
      refine ⟨_, rfl, a, rfl, ⟨xs, .inl (.inl ha)⟩, ?_⟩
      refine fun D hD => lcL_map (fun x => .bl (isC x)) ha hl (fun i x H' R hx s q' => ?_) hD fun H' s hL => ?_
      · exact ⟨rfl, x, rfl, x, rfl, (hk x (List.mem_of_getElem? hx)).same s, q' _ (Same.refl _)⟩
      refine ⟨D, xs.map isC, rfl, .inl (.inl (by rw [hL, List.map_map]; rfl)), ?_⟩
      rw [List.all_map]
      exact q H' s
    · have e' : ¬ (xs.length : Int) = m := fun z => e (by rw [z]; exact decide_eq_true rfl)
      rw [decide_eq_false e', Bool.false_and] at q
      exact q H (Same.refl _)
def sp_need_point : Sp := fun vs H Q _ => ∃ (a : Addr) (xs : List Int) (m : Int), vs = [.ref a, .int m] ∧ H a = some (.lst (xs.map V.int)) ∧ xs.length < sizeLine ∧ (xs.length : Int) = m ∧ (∀ x ∈ xs, 0 ≤ x) ∧ ∀ H', Same H H' → Q .non H'
theorem c_need_point (T : Txt K mg) : C8.Cal P w K mg base 4 "need_point" sp_need_point [] := by
  refine calF T.d_need_point sc_need_point (fun vs H Q E h => ?_) (fun f cdv A outer s H vs Q E hr h => ?_)
  · obtain ⟨_, _, _, rfl, _⟩ := h; rfl
  · obtain ⟨a, xs, m, rfl, ha, hl, hm, hk, q⟩ := h
    refine ⟨_, (pss_one (ps_if (pt_not (pt_val (C8.pe_c (c_is_counts T) hr (by decide) (by rfl) (pa_cons (pv 0) (pa_cons (pv 1) pa_nil)))))
    (pss_one ps_never)
    pss_nil)), ?_⟩
    refine ⟨_, rfl, _, rfl, a, xs.map V.int, m, rfl, ha, by rw [List.length_map]; exact hl, fun x hx => ?_, fun H' s => ⟨_, rfl, ?_⟩⟩
    · obtain ⟨i, _, rfl⟩ := List.mem_map.mp hx
      exact .int i
    · rw [show (decide (((xs.map V.int).length : Int) = m) && (xs.map V.int).all isC) = true by
        rw [List.length_map, decide_eq_true hm, Bool.true_and, List.all_map, List.all_eq_true]
        exact fun x hx => decide_eq_true (hk x hx)]
      exact iteF (q H' s)
/-! ### forms -/
/-- what is_form_for says of a value -/
def formB (H : Hp) (m : Int) : V → Bool
  | .ref a => match H a with
    | some (.tup xs) => decide ((xs.length : Int) = m + 1) && xs.all isC
    | _ => false
  | _ => false
theorem formB_tup {H : Hp} {m : Int} {a : Addr} {xs : List V} (h : H a = some (.tup xs)) : formB H m (.ref a) = (decide ((xs.length : Int) = m + 1) && xs.all isC) := by simp only [formB, h]
def sp_is_form_for : Sp := fun vs H Q _ => ∃ (m : Int) (v : V), vs = [.int m, v] ∧ Kn H v ∧ (∀ a xs, v = .ref a → H a = some (.tup xs) → xs.length < sizeLine ∧ ∀ x ∈ xs, Kn H x) ∧ ∀ H', Same H H' → Q (.bl (formB H m v)) H'
theorem c_is_form_for (T : Txt K mg) : C8.Cal P w K mg base 3 "is_form_for" sp_is_form_for [] := by
  refine calF T.d_is_form_for sc_is_form_for (fun vs H Q E h => ?_) (fun f cdv A outer s H vs Q E hr h => ?_)
  · obtain ⟨_, _, rfl, _⟩ := h; rfl
  · obtain ⟨m, v, rfl, kn, ht, q⟩ := h
    refine ⟨_, (pss_one (ps_ret (pe_and (pe_callB call_isK (by rfl) T.m_isinstance (by decide +kernel) (pa_cons (pv 1) (pa_cons (pe_bltn (v := .ty "tuple") (by rfl) T.m_tuple (by decide +kernel) rfl) pa_nil))) (pe_and (pe_cmpR op_eq (pe_callB call_len_seq (by rfl) T.m_len (by decide +kernel) (pa_cons (pv 1) pa_nil)) (pe_op op_add (pv 0) pe_int) (nomark _)) (pe_one (pe_callB (cr_all rfl) (by rfl) T.m_all (by decide +kernel) (pa_cons (pe_lc (own := [("number", 2)]) (by rfl) sc_is_form_for.nd (pi_tup (pv 1)) (blkOk_by (N := ["many", "value", "number"]) (sc := C8.fnScope (topS 18)) (own := [("number", 2)]) (by decide +kernel)) (fun _ _ _ _ _ => (pg_name (i := 2) sc_is_form_for.nd rfl (Or.inl rfl))) (fun _ _ _ _ _ => pts_nil) (fun _ _ _ _ _ => (C8.pe_c (c_is_count T) hr (by decide) (by rfl) (pa_cons (pv 2) pa_nil)))) pa_nil))))))), ?_⟩
    refine ⟨_, rfl, v, "tuple", _, rfl, kn, kit_tuple kn, _, rfl, ite2 (fun e => ?_) (fun e => ?_)⟩
    · cases kn <;> first | (exact absurd e Bool.false_ne_true) | skip
      · rename_i a xs ha
        simp only [isTu, ha] at e
        exact absurd e (by decide)
      · rename_i a xs ha
        obtain ⟨hl, hk⟩ := ht a xs rfl ha
        rw [formB_tup ha] at q
        refine ⟨_, rfl, a, xs, rfl, .inr (.inl (.inl ha)), _, rfl, _, _, rfl, rfl, rfl, _, rfl, ite2 (fun e => ?_) (fun e => ?_)⟩
        · have e' : (xs.length : Int) = m + 1 := V.int.inj (of_decide_eq_true e)
          rw [decide_eq_true e', Bool.true_and] at q
          refine ⟨_, rfl, a, rfl, ⟨xs, .inl (.inl ha)⟩, ?_⟩
          refine fun D hD => lcT_map (fun x => .bl (isC x)) ha hl (fun i x H' R hx s q' => ?_) hD fun H' s hL => ?_
          · exact ⟨rfl, x, rfl, x, rfl, (hk x (List.mem_of_getElem? hx)).same s, q' _ (Same.refl _)⟩
          refine ⟨D, xs.map isC, rfl, .inl (.inl (by rw [hL, List.map_map]; rfl)), ?_⟩
          rw [List.all_map]
          exact q H' s
        · have e' : ¬ (xs.length : Int) = m + 1 := fun z => e (by rw [z]; exact decide_eq_true rfl)
          rw [decide_eq_false e', Bool.false_and] at q
          exact q H (Same.refl _)
    · rw [show formB H m v = false by
        cases kn <;> first | rfl | skip
        · rename_i a xs ha
          simp only [formB, ha]
        · rename_i a xs ha
          exact absurd (isTu_tup ha) e] at q
      exact q H (Same.refl _)
/-- a tuple of whole numbers -/
def TI (H : Hp) (a : Addr) (ns : List Int) : Prop := H a = some (.tup (ns.map V.int))
theorem TI.same {H H' : Hp} {a : Addr} {ns : List Int} (h : TI H a ns) (s : Same H H') : TI H' a ns := s _ _ h
def Nn (ns : List Int) : Prop := ∀ n ∈ ns, 0 ≤ n
theorem TI.kn {H : Hp} {a : Addr} {ns : List Int} (h : TI H a ns) : Kn H (.ref a) := .tup h
theorem formB_TI {H : Hp} {m : Int} {a : Addr} {ns : List Int} (h : TI H a ns) (hn : Nn ns) : formB H m (.ref a) = decide ((ns.length : Int) = m + 1) := by
  rw [formB_tup h, List.length_map, show (ns.map V.int).all isC = true by
    rw [List.all_map, List.all_eq_true]
    exact fun x hx => decide_eq_true (hn x hx), Bool.and_true]
theorem kn_ints {H : Hp} {ns : List Int} : ∀ x ∈ ns.map V.int, Kn H x := fun x hx => by
  obtain ⟨i, _, rfl⟩ := List.mem_map.mp hx
  exact .int i
theorem small5 {n : Nat} (h : n ≤ 5) : n < sizeLine := small1000 (by omega)
def sp_need_form : Sp := fun vs H Q _ => ∃ (a : Addr) (ns : List Int), vs = [.ref a] ∧ TI H a ns ∧ Nn ns ∧ 0 < ns.length ∧ ns.length ≤ 4 ∧ ∀ H', Same H H' → Q .non H'
def sp_is_some_form : Sp := fun vs H Q _ => ∃ (a : Addr) (ns : List Int), vs = [.ref a] ∧ TI H a ns ∧ Nn ns ∧ 0 < ns.length ∧ ns.length ≤ 4 ∧ ∀ H', Same H H' → Q (.bl true) H'
theorem c_is_some_form (T : Txt K mg) : C8.Cal P w K mg base 4 "is_some_form" sp_is_some_form [] := by
  refine calF T.d_is_some_form sc_is_some_form (fun vs H Q E h => ?_) (fun f cdv A outer s H vs Q E hr h => ?_)
  · obtain ⟨_, _, rfl, _⟩ := h; rfl
  · obtain ⟨a, ns, rfl, ha, hn, h0, h4, q⟩ := h
    refine ⟨_, (pss_one (ps_ret (pe_and (pe_callB call_isK (by rfl) T.m_isinstance (by decide +kernel) (pa_cons (pv 0) (pa_cons (pe_bltn (v := .ty "tuple") (by rfl) T.m_tuple (by decide +kernel) rfl) pa_nil))) (pe_and (pe_chain op_lt op_le pe_int (pe_callB call_len_seq (by rfl) T.m_len (by decide +kernel) (pa_cons (pv 0) pa_nil)) (pe_op op_add (C8.pe_gc (by rfl) T.k_MOST_UNKNOWNS) pe_int)) (pe_one (C8.pe_c (c_is_form_for T) hr (by decide) (by rfl) (pa_cons (pe_op op_sub (pe_callB call_len_seq (by rfl) T.m_len (by decide +kernel) (pa_cons (pv 0) pa_nil)) pe_int) (pa_cons (pv 0) pa_nil)))))))), ?_⟩
    refine ⟨_, rfl, .ref a, "tuple", _, rfl, ha.kn, kit_tuple ha.kn, _, rfl, ?_⟩
    rw [isTu_tup ha]
    refine iteT ⟨_, rfl, a, _, rfl, .inr (.inl (.inl ha)), _, _, rfl, rfl, _, rfl, ?_⟩
    rw [List.length_map, decide_eq_true (show (0 : Int) < (ns.length : Int) by omega)]
    refine iteT ⟨_, _, rfl, rfl, _, _, rfl, rfl, _, rfl, ?_⟩
    rw [decide_eq_true (show (ns.length : Int) ≤ 3 + 1 by omega)]
    refine iteT ⟨_, rfl, a, _, rfl, .inr (.inl (.inl ha)), _, _, rfl, rfl, _, rfl, _, _, rfl, ha.kn, fun b xs e hb => ?_, fun H' s => ?_⟩
    · cases e
      have := hb.symm.trans ha
      cases this
      exact ⟨by rw [List.length_map]; exact small5 (by omega), kn_ints⟩
    · rw [List.length_map, formB_TI ha hn, decide_eq_true (show (ns.length : Int) = (ns.length : Int) - 1 + 1 by omega)]
      exact q H' s
theorem c_need_form (T : Txt K mg) : C8.Cal P w K mg base 5 "need_form" sp_need_form [] := by
  refine calF T.d_need_form sc_need_form (fun vs H Q E h => ?_) (fun f cdv A outer s H vs Q E hr h => ?_)
  · obtain ⟨_, _, rfl, _⟩ := h; rfl
  · obtain ⟨a, ns, rfl, ha, hn, h0, h4, q⟩ := h
    refine ⟨_, (pss_one (ps_if (pt_not (pt_val (C8.pe_c (c_is_some_form T) hr (by decide) (by rfl) (pa_cons (pv 0) pa_nil))))
    (pss_one ps_never)
    pss_nil)), ?_⟩
    exact ⟨_, rfl, a, ns, rfl, ha, hn, h0, h4, fun H' s => ⟨_, rfl, iteF (q H' s)⟩⟩
end
end K11

set_option Elab.async false
set_option linter.all false
set_option maxRecDepth 100000
set_option maxHeartbeats 2000000
namespace K11
open PySem PySem.Spec PyProof.Rows L2 CK
/-! ### the mathematics of forms -/
def zadd (f g : List Int) : List Int := List.zipWith (fun x y => x + y) f g
def zmul (f g : List Int) : List Int := List.zipWith (fun x y => x * y) f g
def valL (f p : List Int) : Int := f.headD 0 + (zmul f.tail p).sum
def timesL (n : Int) (f : List Int) : List Int := f.map fun x => n * x
def stepL (r : List Int) (q : Int × List Int) : List Int := zadd r (timesL q.1 q.2)
def insL (f : List Int) (m : Nat) (gs : List (List Int)) : List Int := (f.tail.zip gs).foldl stepL (f.headD 0 :: List.replicate m 0)
def Bd (ns : List Int) : Prop := ∀ n ∈ ns, n.natAbs < 2 ^ 1000
theorem zip_ints {f g : Int → Int → Int} : ∀ (xs ys : List Int), List.zipWith (fun x y => match x, y with | .int i, .int j => V.int (f i j) | _, _ => V.non) (xs.map V.int) (ys.map V.int) = (List.zipWith f xs ys).map V.int
  | [], _ => by simp
  | _ :: _, [] => by simp
  | x :: xs, y :: ys => by
    show V.int (f x y) :: _ = V.int (f x y) :: _
    rw [zip_ints (f := f) (g := g) xs ys]
theorem get_int {xs : List Int} {i : Nat} {v : V} (h : (xs.map V.int)[i]? = some v) : ∃ z, z ∈ xs ∧ xs[i]? = some z ∧ v = .int z := by
  rw [List.getElem?_map] at h
  cases e : xs[i]? with
  | none => rw [e] at h; cases h
  | some z =>
    rw [e] at h
    exact ⟨z, List.mem_of_getElem? e, rfl, (Option.some.inj h).symm⟩
/-- + of two values, both whole numbers -/
def vAdd : V → V → V
  | .int i, .int j => .int (i + j)
  | _, _ => .non
def vMul : V → V → V
  | .int i, .int j => .int (i * j)
  | _, _ => .non
def vLe : V → V → V
  | .int i, .int j => .bl (decide (i ≤ j))
  | _, _ => .non
theorem zip_add : ∀ (xs ys : List Int), List.zipWith vAdd (xs.map V.int) (ys.map V.int) = (zadd xs ys).map V.int
  | [], _ => by simp [zadd]
  | _ :: _, [] => by simp [zadd]
  | x :: xs, y :: ys => by
    show V.int (x + y) :: _ = V.int (x + y) :: _
    rw [zip_add xs ys]
    rfl
theorem zip_mul : ∀ (xs ys : List Int), List.zipWith vMul (xs.map V.int) (ys.map V.int) = (zmul xs ys).map V.int
  | [], _ => by simp [zmul]
  | _ :: _, [] => by simp [zmul]
  | x :: xs, y :: ys => by
    show V.int (x * y) :: _ = V.int (x * y) :: _
    rw [zip_mul xs ys]
    rfl
def zle (f g : List Int) : List Bool := List.zipWith (fun x y => decide (x ≤ y)) f g
theorem zip_le : ∀ (xs ys : List Int), List.zipWith vLe (xs.map V.int) (ys.map V.int) = (zle xs ys).map V.bl
  | [], _ => by simp [zle]
  | _ :: _, [] => by simp [zle]
  | x :: xs, y :: ys => by
    show V.bl (decide (x ≤ y)) :: _ = V.bl (decide (x ≤ y)) :: _
    rw [zip_le xs ys]
    rfl
theorem mulOk {i j : Int} (hi : i.natAbs < 2 ^ 1000) (hj : j.natAbs < 2 ^ 1000) : CMulW i j := wide_mul hi hj (by decide) (by decide) (by decide)
section
variable {P : Program} {w : World} {K : PySem.W.Frag} {mg : Str → Option Value} {base : Heap}
/-- a list of whole numbers -/
def LI (H : Hp) (a : Addr) (ns : List Int) : Prop := H a = some (.lst (ns.map V.int))
theorem LI.same {H H' : Hp} {a : Addr} {ns : List Int} (h : LI H a ns) (s : Same H H') : LI H' a ns := s _ _ h
theorem tail_map (ns : List Int) : (ns.map V.int).drop 1 = (ns.tail).map V.int := by
  cases ns <;> rfl
/-! plain_form -/
def sp_plain_form : Sp := fun vs H Q _ => ∃ (n : Int) (m : Nat), vs = [.int n, .int m] ∧ m ≤ 3 ∧ ∀ p H', Same H H' → TI H' p (n :: List.replicate m 0) → Q (.ref p) H'
theorem c_plain_form (T : Txt K mg) : C8.Cal P w K mg base 1 "plain_form" sp_plain_form [] := by
  refine calF T.d_plain_form sc_plain_form (fun vs H Q E h => ?_) (fun f cdv A outer s H vs Q E hr h => ?_)
  · obtain ⟨_, _, rfl, _⟩ := h; rfl
  · obtain ⟨n, m, rfl, hm, q⟩ := h
    refine ⟨_, (pss_one (ps_ret (pe_op op_catS (pe_tup (pa_cons (pv 0) pa_nil)) (pe_op op_repOne (pe_tup (pa_cons pe_int pa_nil)) (pv 1))))), ?_⟩
    refine ⟨_, rfl, by show 1 ≤ sizeLine; decide, fun t1 n1 => ⟨by decide, fun t2 n2 => ⟨_, rfl, t2, _, _, rfl, rfl, upd_same, by omega, by omega, fun p H' s hp => ?_⟩⟩⟩
    have e1 : H' t1 = some (.tup [.int n]) := s _ _ (by rw [upd_ne (ne_of_none upd_same n2)]; exact upd_same)
    refine ⟨t1, p, _, _, rfl, rfl, e1, hp, by simp; omega, fun p2 H2 s2 h2 => q p2 H2 (((sameNew n1).trans (sameNew n2)).trans (s.trans s2)) ?_⟩
    unfold TI
    rw [h2]
    simp
/-! form_value -/
def sp_form_value : Sp := fun vs H Q _ => ∃ (a b : Addr) (f p : List Int), vs = [.ref a, .ref b] ∧ TI H a f ∧ LI H b p ∧ 0 < f.length ∧ f.length ≤ 4 ∧ p.length + 1 = f.length ∧ Bd f ∧ Bd p ∧ ∀ H', Same H H' → Q (.int (valL f p)) H'
theorem mem_tail {α : Type} {x : α} {l : List α} (h : x ∈ l.tail) : x ∈ l := by
  cases l with
  | nil => exact h
  | cons a l => exact List.mem_cons_of_mem _ h
theorem c_form_value (T : Txt K mg) : C8.Cal P w K mg base 1 "form_value" sp_form_value [] := by
  refine calF T.d_form_value sc_form_value (fun vs H Q E h => ?_) (fun f cdv A outer s H vs Q E hr h => ?_)
  · obtain ⟨_, _, _, _, rfl, _⟩ := h; rfl
  · obtain ⟨a, b, f, p, rfl, ha, hb, h0, h4, hl, bf, bp, q⟩ := h
    refine ⟨_, (pss_one (ps_ret (pe_op op_add (pe_ix ix_tup (pv 0) pe_int (fun _ _ => rfl)) (pe_callB (cr_sum rfl) (by rfl) T.m_sum (by decide +kernel) (pa_cons (pe_lc (own := [("number", 2), ("count", 3)]) (by rfl) sc_form_value.nd (pi_zipB (K := K) rfl (by rfl) T.m_zip (pa_cons (pe_slice sl_drop (pv 0) (po_some pe_int) po_none) (pa_cons (pv 1) pa_nil))) (blkOk_by (N := ["form", "point", "number", "count"]) (sc := C8.fnScope (topS 23)) (own := [("number", 2), ("count", 3)]) (by decide +kernel)) (fun _ _ _ _ _ => (pg_two (K := K) (i := 2) (j := 3) rfl rfl sc_form_value.nd rfl rfl (Or.inl rfl) (Or.inl rfl))) (fun _ _ _ _ _ => pts_nil) (fun _ _ _ _ _ => (pe_op op_mulW (pv 2) (pv 3)))) pa_nil))))), ?_⟩
    obtain ⟨c, r, rfl⟩ : ∃ c r, f = c :: r := by cases f with | nil => simp at h0 | cons c r => exact ⟨c, r, rfl⟩
    refine ⟨_, rfl, a, _, 0, .int c, rfl, rfl, .inl (.inl ha), atI_nat (j := 0) rfl, ?_⟩
    refine ⟨_, rfl, 1, rfl, a, _, 1, rfl, rfl, rfl, ha, fun p1 H1 s1 h1 => ?_⟩
    have hb1 : LI H1 b p := hb.same s1
    have h1' : TI H1 p1 r := h1
    refine ⟨_, rfl, .T, .L, p1, b, r.map V.int, p.map V.int, rfl, .inl (.inl h1'), .inl (.inl hb1), ?_⟩
    refine fun D hD => lcZ_map vMul (by simp at hl ⊢; omega) (by rw [List.length_map]; exact small5 (by simp at h4; omega)) (fun H' s => ⟨.inl (.inl (s _ _ h1')), .inl (.inl (s _ _ hb1))⟩) (fun i x y H' R hx hy s q' => ?_) hD fun H' s hL => ?_
    · obtain ⟨x', mx, _, rfl⟩ := get_int hx
      obtain ⟨y', my, _, rfl⟩ := get_int hy
      exact ⟨rfl, _, rfl, _, rfl, x', y', rfl, rfl, mulOk (bf x' (List.mem_cons_of_mem _ mx)) (bp y' my), q' _ (Same.refl _)⟩
    · rw [zip_mul] at hL
      exact ⟨D, _, rfl, .inl (.inl hL), _, _, rfl, rfl, q H' (s1.trans s)⟩
/-! form_sum, form_times, at_most -/
def sp_form_sum : Sp := fun vs H Q _ => ∃ (a b : Addr) (f g : List Int), vs = [.ref a, .ref b] ∧ TI H a f ∧ TI H b g ∧ f.length ≤ 4 ∧ f.length = g.length ∧ ∀ p H', Same H H' → TI H' p (zadd f g) → Q (.ref p) H'
theorem c_form_sum (T : Txt K mg) : C8.Cal P w K mg base 1 "form_sum" sp_form_sum [] := by
  refine calF T.d_form_sum sc_form_sum (fun vs H Q E h => ?_) (fun f cdv A outer s H vs Q E hr h => ?_)
  · obtain ⟨_, _, _, _, rfl, _⟩ := h; rfl
  · obtain ⟨a, b, f, g, rfl, ha, hb, h4, hl, q⟩ := h
    refine ⟨_, (pss_one (ps_ret (pe_callTy call_tupL (by rfl) T.m_tuple (by decide +kernel) (pa_cons (pe_lc (own := [("left", 2), ("right", 3)]) (by rfl) sc_form_sum.nd (pi_zipB (K := K) rfl (by rfl) T.m_zip (pa_cons (pv 0) (pa_cons (pv 1) pa_nil))) (blkOk_by (N := ["one", "other", "left", "right"]) (sc := C8.fnScope (topS 24)) (own := [("left", 2), ("right", 3)]) (by decide +kernel)) (fun _ _ _ _ _ => (pg_two (K := K) (i := 2) (j := 3) rfl rfl sc_form_sum.nd rfl rfl (Or.inl rfl) (Or.inl rfl))) (fun _ _ _ _ _ => pts_nil) (fun _ _ _ _ _ => (pe_op op_add (pv 2) (pv 3)))) pa_nil)))), ?_⟩
    refine ⟨_, rfl, _, rfl, .T, .T, a, b, f.map V.int, g.map V.int, rfl, .inl (.inl ha), .inl (.inl hb), ?_⟩
    refine fun D hD => lcZ_map vAdd (by simp; omega) (by rw [List.length_map]; exact small5 (by omega)) (fun H' s => ⟨.inl (.inl (s _ _ ha)), .inl (.inl (s _ _ hb))⟩) (fun i x y H' R hx hy s q' => ?_) hD fun H' s hL => ?_
    · obtain ⟨x', mx, _, rfl⟩ := get_int hx
      obtain ⟨y', my, _, rfl⟩ := get_int hy
      exact ⟨rfl, _, rfl, _, rfl, x', y', rfl, rfl, q' _ (Same.refl _)⟩
    · rw [zip_add] at hL
      exact ⟨D, _, rfl, hL, fun l H2 s2 h2 => q l H2 (s.trans s2) h2⟩
def sp_form_times : Sp := fun vs H Q _ => ∃ (n : Int) (a : Addr) (f : List Int), vs = [.int n, .ref a] ∧ TI H a f ∧ f.length ≤ 4 ∧ n.natAbs < 2 ^ 1000 ∧ Bd f ∧ ∀ p H', Same H H' → TI H' p (timesL n f) → Q (.ref p) H'
theorem c_form_times (T : Txt K mg) : C8.Cal P w K mg base 1 "form_times" sp_form_times [] := by
  refine calF T.d_form_times sc_form_times (fun vs H Q E h => ?_) (fun f cdv A outer s H vs Q E hr h => ?_)
  · obtain ⟨_, _, _, rfl, _⟩ := h; rfl
  · obtain ⟨n, a, f, rfl, ha, h4, hn, bf, q⟩ := h
    refine ⟨_, (pss_one (ps_ret (pe_callTy call_tupL (by rfl) T.m_tuple (by decide +kernel) (pa_cons (pe_lc (own := [("own", 2)]) (by rfl) sc_form_times.nd (pi_tup (pv 1)) (blkOk_by (N := ["number", "form", "own"]) (sc := C8.fnScope (topS 25)) (own := [("own", 2)]) (by decide +kernel)) (fun _ _ _ _ _ => (pg_name (i := 2) sc_form_times.nd rfl (Or.inl rfl))) (fun _ _ _ _ _ => pts_nil) (fun _ _ _ _ _ => (pe_op op_mulW (pv 0) (pv 2)))) pa_nil)))), ?_⟩
    refine ⟨_, rfl, a, rfl, ⟨_, .inl (.inl ha)⟩, ?_⟩
    refine fun D hD => lcT_map (fun x => vMul (.int n) x) ha (by rw [List.length_map]; exact small5 (by omega)) (fun i x H' R hx s q' => ?_) hD fun H' s hL => ?_
    · obtain ⟨x', mx, _, rfl⟩ := get_int hx
      exact ⟨rfl, _, rfl, _, rfl, n, x', rfl, rfl, mulOk hn (bf x' mx), q' _ (Same.refl _)⟩
    · refine ⟨D, _, rfl, hL, fun l H2 s2 h2 => q l H2 (s.trans s2) ?_⟩
      unfold TI
      rw [h2, timesL, List.map_map, List.map_map]
      rfl
def sp_at_most : Sp := fun vs H Q _ => ∃ (a b : Addr) (f g : List Int), vs = [.ref a, .ref b] ∧ TI H a f ∧ TI H b g ∧ f.length ≤ 4 ∧ f.length = g.length ∧ ∀ H', Same H H' → Q (.bl ((zle f g).all id)) H'
theorem c_at_most (T : Txt K mg) : C8.Cal P w K mg base 1 "at_most" sp_at_most [] := by
  refine calF T.d_at_most sc_at_most (fun vs H Q E h => ?_) (fun f cdv A outer s H vs Q E hr h => ?_)
  · obtain ⟨_, _, _, _, rfl, _⟩ := h; rfl
  · obtain ⟨a, b, f, g, rfl, ha, hb, h4, hl, q⟩ := h
    refine ⟨_, (pss_one (ps_ret (pe_callB (cr_all rfl) (by rfl) T.m_all (by decide +kernel) (pa_cons (pe_lc (own := [("left", 2), ("right", 3)]) (by rfl) sc_at_most.nd (pi_zipB (K := K) rfl (by rfl) T.m_zip (pa_cons (pv 0) (pa_cons (pv 1) pa_nil))) (blkOk_by (N := ["one", "other", "left", "right"]) (sc := C8.fnScope (topS 27)) (own := [("left", 2), ("right", 3)]) (by decide +kernel)) (fun _ _ _ _ _ => (pg_two (K := K) (i := 2) (j := 3) rfl rfl sc_at_most.nd rfl rfl (Or.inl rfl) (Or.inl rfl))) (fun _ _ _ _ _ => pts_nil) (fun _ _ _ _ _ => (pe_cmpR op_le (pv 2) (pv 3) (nomark _)))) pa_nil)))), ?_⟩
    refine ⟨_, rfl, _, rfl, .T, .T, a, b, f.map V.int, g.map V.int, rfl, .inl (.inl ha), .inl (.inl hb), ?_⟩
    refine fun D hD => lcZ_map vLe (by simp; omega) (by rw [List.length_map]; exact small5 (by omega)) (fun H' s => ⟨.inl (.inl (s _ _ ha)), .inl (.inl (s _ _ hb))⟩) (fun i x y H' R hx hy s q' => ?_) hD fun H' s hL => ?_
    · obtain ⟨x', mx, _, rfl⟩ := get_int hx
      obtain ⟨y', my, _, rfl⟩ := get_int hy
      exact ⟨rfl, _, rfl, _, rfl, x', y', rfl, rfl, q' _ (Same.refl _)⟩
    · rw [zip_le] at hL
      exact ⟨D, _, rfl, .inl (.inl hL), q H' s⟩
end
end K11

set_option Elab.async false
set_option linter.all false
set_option maxRecDepth 100000
set_option maxHeartbeats 4000000
namespace K11
open PySem PySem.Spec PyProof.Rows L2 CK
/-- the list at a holds, in order, tuples of these whole numbers -/
structure FL (H : Hp) (a : Addr) (ps : List Addr) (fs : List (List Int)) : Prop where
  at_ : H a = some (.lst (ps.map V.ref))
  len : ps.length = fs.length
  get : ∀ (i : Nat) (p : Addr) (f : List Int), ps[i]? = some p → fs[i]? = some f → TI H p f
theorem FL.same {H H' : Hp} {a : Addr} {ps : List Addr} {fs : List (List Int)} (h : FL H a ps fs) (s : Same H H') : FL H' a ps fs :=
  ⟨s _ _ h.at_, h.len, fun i p f a b => (h.get i p f a b).same s⟩
theorem get_ref {ps : List Addr} {i : Nat} {v : V} (h : (ps.map V.ref)[i]? = some v) : ∃ p, ps[i]? = some p ∧ v = .ref p := by
  rw [List.getElem?_map] at h
  cases e : ps[i]? with
  | none => rw [e] at h; cases h
  | some p =>
    rw [e] at h
    exact ⟨p, rfl, (Option.some.inj h).symm⟩
theorem get_of_len {α β : Type} {xs : List α} {ys : List β} (hl : xs.length = ys.length) {i : Nat} {x : α} (h : xs[i]? = some x) : ∃ y, ys[i]? = some y ∧ y ∈ ys := by
  have h1 := (List.getElem?_eq_some_iff.mp h).1
  have h2 : i < ys.length := by omega
  exact ⟨ys[i], List.getElem?_eq_getElem h2, List.getElem_mem h2⟩
section
variable {P : Program} {w : World} {K : PySem.W.Frag} {mg : Str → Option Value} {base : Heap}
def sp_is_forms : Sp := fun vs H Q _ => ∃ (a : Addr) (ps : List Addr) (fs : List (List Int)) (n m : Int), vs = [.ref a, .int n, .int m] ∧ FL H a ps fs ∧ fs.length ≤ 4 ∧ (fs.length : Int) = n ∧
  (∀ f ∈ fs, Nn f ∧ (f.length : Int) = m + 1 ∧ f.length ≤ 4) ∧ ∀ H', Same H H' → Q (.bl true) H'
theorem c_is_forms (T : Txt K mg) : C8.Cal P w K mg base 4 "is_forms" sp_is_forms [] := by
  refine calF T.d_is_forms sc_is_forms (fun vs H Q E h => ?_) (fun f cdv A outer s H vs Q E hr h => ?_)
  · obtain ⟨_, _, _, _, _, rfl, _⟩ := h; rfl
  · obtain ⟨a, ps, fs, n, m, rfl, F, h4, hn, hf, q⟩ := h
    refine ⟨_, (pss_cons (ps_if (PW.pt (pw_or (pt_not (pt_val (pe_callB call_isK (by rfl) T.m_isinstance (by decide +kernel) (pa_cons (pv 0) (pa_cons (pe_bltn (v := .ty "list") (by rfl) T.m_list (by decide +kernel) rfl) pa_nil))))) (pw_or1 (pt_cmpR op_ne (pe_callB call_len_seq (by rfl) T.m_len (by decide +kernel) (pa_cons (pv 0) pa_nil)) (pv 1) (nomark _)))))
    (pss_one (ps_ret pe_bl))
    pss_nil)
    (pss_one (ps_ret (pe_callB (cr_all rfl) (by rfl) T.m_all (by decide +kernel) (pa_cons (pe_lc (own := [("form", 3)]) (by rfl) sc_is_forms.nd (pi_list (pv 0)) (blkOk_by (N := ["value", "size", "many", "form"]) (sc := C8.fnScope (topS 21)) (own := [("form", 3)]) (by decide +kernel)) (fun _ _ _ _ _ => (pg_name (i := 3) sc_is_forms.nd rfl (Or.inl rfl))) (fun _ _ _ _ _ => pts_nil) (fun _ _ _ _ _ => (C8.pe_c (c_is_form_for T) hr (by decide) (by rfl) (pa_cons (pv 2) (pa_cons (pv 3) pa_nil))))) pa_nil))))), ?_⟩
    have kn : Kn H (.ref a) := .lst F.at_
    refine ⟨_, rfl, .ref a, "list", _, rfl, kn, kit_list kn, _, rfl, ?_⟩
    rw [isLi_lst F.at_]
    refine iteF ⟨_, rfl, a, _, rfl, .inl (.inl (.inl F.at_)), _, rfl, rfl, _, rfl, iteNS (by rw [List.length_map, F.len, hn]) ?_⟩
    refine ⟨_, rfl, a, rfl, ⟨_, .inl (.inl F.at_)⟩, ?_⟩
    refine fun D hD => lcL_map (fun _ => .bl true) F.at_ (by rw [List.length_map, F.len]; exact small5 (by omega)) (fun i x H' R hx s q' => ?_) hD fun H' s hL => ?_
    · obtain ⟨p, hp, rfl⟩ := get_ref hx
      obtain ⟨f, hf', mf⟩ := get_of_len F.len hp
      have t : TI H' p f := (F.get i p f hp hf').same s
      obtain ⟨a1, a2, a3⟩ := hf f mf
      refine ⟨rfl, _, rfl, _, rfl, m, .ref p, rfl, t.kn, fun b xs e hb => ?_, fun H'' s'' => ?_⟩
      · cases e
        have := hb.symm.trans t
        cases this
        exact ⟨by rw [List.length_map]; exact small5 (by omega), kn_ints⟩
      · rw [formB_TI t a1, decide_eq_true a2]
        exact q' H'' s''
    · refine ⟨D, ps.map fun _ => true, rfl, .inl (.inl (by rw [hL, List.map_map, List.map_map]; rfl)), ?_⟩
      rw [show (ps.map fun _ => true).all id = true by simp]
      exact q H' s
/-! form_inserted -/
theorem zadd_len {f g : List Int} (h : f.length = g.length) : (zadd f g).length = f.length := by
  unfold zadd
  rw [List.length_zipWith]
  omega
theorem times_len (n : Int) (f : List Int) : (timesL n f).length = f.length := by
  unfold timesL
  rw [List.length_map]
def sp_form_inserted : Sp := fun vs H Q _ => ∃ (a b : Addr) (f : List Int) (m : Nat) (ps : List Addr) (fs : List (List Int)), vs = [.ref a, .int m, .ref b] ∧ TI H a f ∧ 0 < f.length ∧ f.length ≤ 4 ∧ Bd f ∧ m ≤ 3 ∧
  FL H b ps fs ∧ fs.length + 1 = f.length ∧ (∀ g ∈ fs, g.length = m + 1 ∧ Bd g) ∧ ∀ p H', Same H H' → TI H' p (insL f m fs) → Q (.ref p) H'
theorem fold_take {α β : Type} (g : β → α → β) : ∀ (l : List α) (b : β) (i : Nat) (x : α), l[i]? = some x → (l.take (i + 1)).foldl g b = g ((l.take i).foldl g b) x := fun l b i x h => by
  rw [List.take_add_one, h, List.foldl_append]
  rfl
theorem fold_len {m : Nat} : ∀ (l : List (Int × List Int)) (r : List Int), r.length = m → (∀ q ∈ l, q.2.length = m) → (l.foldl stepL r).length = m
  | [], r, h, _ => h
  | q :: l, r, h, hq => fold_len l (stepL r q) (by
      have e := hq q List.mem_cons_self
      unfold stepL
      rw [zadd_len (by rw [times_len, e, h]), h]) fun z hz => hq z (List.mem_cons_of_mem _ hz)
theorem c_form_inserted (T : Txt K mg) : C8.Cal P w K mg base 2 "form_inserted" sp_form_inserted [] := by
  refine calF T.d_form_inserted sc_form_inserted (fun vs H Q E h => ?_) (fun f cdv A outer s H vs Q E hr h => ?_)
  · obtain ⟨_, _, _, _, _, _, rfl, _⟩ := h; rfl
  · obtain ⟨a, b, f, m, ps, fs, rfl, ha, h0, h4, bf, hm, F, hl, hf, q⟩ := h
    refine ⟨_, (pss_cons (ps_set (i := 3) sc_form_inserted.nd rfl (Or.inl rfl) (C8.pe_c (c_plain_form T) hr (by decide) (by rfl) (pa_cons (pe_ix ix_tup (pv 0) pe_int (fun _ _ => rfl)) (pa_cons (pv 1) pa_nil))))
    (pss_cons (ps_for PassesOwn.never rfl (pi_zipB (K := K) rfl (by rfl) T.m_zip (pa_cons (pe_slice sl_drop (pv 0) (po_some pe_int) po_none) (pa_cons (pv 2) pa_nil))) (pg_two (K := K) (i := 4) (j := 5) rfl rfl sc_form_inserted.nd rfl rfl (Or.inl rfl) (Or.inl rfl))
    (pss_one (ps_set (i := 3) sc_form_inserted.nd rfl (Or.inl rfl) (C8.pe_c (c_form_sum T) hr (by decide) (by rfl) (pa_cons (pv 3) (pa_cons (C8.pe_c (c_form_times T) hr (by decide) (by rfl) (pa_cons (pv 4) (pa_cons (pv 5) pa_nil))) pa_nil))))))
    (pss_one (ps_ret (pv 3))))), ?_⟩
    obtain ⟨c, r, rfl⟩ : ∃ c r, f = c :: r := by cases f with | nil => simp at h0 | cons c r => exact ⟨c, r, rfl⟩
    refine ⟨_, rfl, a, _, 0, .int c, rfl, rfl, .inl (.inl ha), atI_nat (j := 0) rfl, _, rfl, c, m, rfl, hm, fun p1 H1 s1 t1 => ?_⟩
    refine ⟨_, rfl, 1, rfl, a, _, 1, rfl, rfl, rfl, s1 _ _ ha, fun p2 H2 s2 h2 => ?_⟩
    have h2' : TI H2 p2 r := h2
    have F2 := F.same (s1.trans s2)
    have ll : (r.map V.int).length = (ps.map V.ref).length := by
      rw [List.length_map, List.length_map, F.len]
      simp at hl
      omega
    refine ⟨_, rfl, .T, .L, p2, b, r.map V.int, ps.map V.ref, rfl, .inl (.inl h2'), .inl (.inl F2.at_), ?_⟩
    refine for_it (walkB (K := K) (k := .T) (k' := .L) (a := p2) (b := b) ll) (fun i σ H3 => ∃ y4 y5 p3, σ = [some (.ref a), some (.int m), some (.ref b), some (.ref p3), y4, y5] ∧ Same H2 H3 ∧ TI H3 p3 (((r.zip fs).take i).foldl stepL (c :: List.replicate m 0)))
      ⟨none, none, p1, rfl, Same.refl _, t1.same s2⟩ (fun i σ H3 _ p => ?_) (fun i x σ H3 H4 hi p y => ?_) fun σ H3 p => ?_
    · obtain ⟨y4, y5, p3, _, s3, _⟩ := p
      exact ⟨.inl (.inl (s3 _ _ h2')), .inl (.inl (s3 _ _ F2.at_))⟩
    · obtain ⟨y4, y5, p3, rfl, s3, t3⟩ := p
      obtain ⟨Tn, x1, x2, rfl, hT, rfl, e1, e2⟩ := y
      have e1 : (r.map V.int)[i]? = some x1 := e1
      have e2 : (ps.map V.ref)[i]? = some x2 := e2
      obtain ⟨n, mn, en, rfl⟩ := get_int e1
      obtain ⟨p, hp, rfl⟩ := get_ref e2
      obtain ⟨g, hg, mg'⟩ := get_of_len F.len hp
      have s4 : Same H3 (upd H3 Tn (.tup [.int n, .ref p])) := sameNew hT
      have tg : TI (upd H3 Tn (.tup [.int n, .ref p])) p g := (F2.get i p g hp hg).same (s3.trans s4)
      obtain ⟨gl, gb⟩ := hf g mg'
      have hz : (r.zip fs)[i]? = some (n, g) := by rw [List.getElem?_zip_eq_some]; exact ⟨en, hg⟩
      have rl : (((r.zip fs).take i).foldl stepL (c :: List.replicate m 0)).length = m + 1 := fold_len _ _ (by simp) fun z hz => (hf z.2 (by
        have := List.mem_of_mem_take hz
        exact (List.of_mem_zip this).2)).1
      refine ⟨Tn, _, rfl, .inl (.inl upd_same), rfl, _, _, rfl, _, _, rfl, rfl, ?_⟩
      refine ⟨_, rfl, _, rfl, _, rfl, n, p, g, rfl, tg, by omega, bf n (List.mem_cons_of_mem _ mn), gb, fun p4 H5 s5 t5 => ?_⟩
      refine ⟨p3, p4, _, _, rfl, (t3.same s4).same s5, t5, by omega, by rw [rl, times_len, gl], fun p5 H6 s6 t6 => ?_⟩
      refine ⟨_, _, p5, rfl, ((s3.trans s4).trans s5).trans s6, ?_⟩
      rw [fold_take stepL _ _ i _ hz]
      exact t6
    · obtain ⟨y4, y5, p3, rfl, s3, t3⟩ := p
      rw [List.length_map] at t3
      refine ⟨_, rfl, q p3 H3 ((s1.trans s2).trans s3) ?_⟩
      rw [List.take_of_length_le (by rw [List.length_zip]; exact Nat.min_le_left _ _)] at t3
      exact t3
/-! ### the interface -/
def sp_is_form : Sp := fun vs H Q _ => ∃ (m : Int) (v : V), vs = [.int m, v] ∧ 0 ≤ m ∧ m ≤ 3 ∧ Kn H v ∧ (∀ a xs, v = .ref a → H a = some (.tup xs) → xs.length < sizeLine ∧ ∀ x ∈ xs, Kn H x) ∧ ∀ H', Same H H' → Q (.bl (formB H m v)) H'
theorem c_is_form (T : Txt K mg) : C8.Cal P w K mg base 5 "is_form" sp_is_form [] := by
  refine calF T.d_is_form sc_is_form (fun vs H Q E h => ?_) (fun f cdv A outer s H vs Q E hr h => ?_)
  · obtain ⟨_, _, rfl, _⟩ := h; rfl
  · obtain ⟨m, v, rfl, h0, h3, kn, ht, q⟩ := h
    refine ⟨_, (pss_cons (ps_expr (C8.pe_c (c_need_many T) hr (by decide) (by rfl) (pa_cons (pv 0) pa_nil)))
    (pss_one (ps_ret (C8.pe_c (c_is_form_for T) hr (by decide) (by rfl) (pa_cons (pv 0) (pa_cons (pv 1) pa_nil)))))), ?_⟩
    exact ⟨_, rfl, m, rfl, h0, h3, _, rfl, _, rfl, m, v, rfl, kn, ht, q⟩
def sp_two : Sp := fun vs H Q _ => ∃ (a b : Addr) (f g : List Int), vs = [.ref a, .ref b] ∧ TI H a f ∧ TI H b g ∧ Nn f ∧ Nn g ∧ 0 < f.length ∧ f.length ≤ 4 ∧ f.length = g.length ∧ ∀ H', Same H H' → Q .non H'
theorem c_need_two_forms (T : Txt K mg) : C8.Cal P w K mg base 6 "need_two_forms" sp_two [] := by
  refine calF T.d_need_two_forms sc_need_two_forms (fun vs H Q E h => ?_) (fun f cdv A outer s H vs Q E hr h => ?_)
  · obtain ⟨_, _, _, _, rfl, _⟩ := h; rfl
  · obtain ⟨a, b, f, g, rfl, ha, hb, nf, ng, h0, h4, hl, q⟩ := h
    refine ⟨_, (pss_cons (ps_expr (C8.pe_c (c_need_form T) hr (by decide) (by rfl) (pa_cons (pv 0) pa_nil)))
    (pss_cons (ps_expr (C8.pe_c (c_need_form T) hr (by decide) (by rfl) (pa_cons (pv 1) pa_nil)))
    (pss_one (ps_if (pt_cmpR op_ne (pe_callB call_len_seq (by rfl) T.m_len (by decide +kernel) (pa_cons (pv 0) pa_nil)) (pe_callB call_len_seq (by rfl) T.m_len (by decide +kernel) (pa_cons (pv 1) pa_nil)) (nomark _))
    (pss_one ps_never)
    pss_nil)))), ?_⟩
    refine ⟨_, rfl, a, f, rfl, ha, nf, h0, h4, fun H1 s1 => ⟨_, rfl, b, g, rfl, hb.same s1, ng, by omega, by omega, fun H2 s2 => ?_⟩⟩
    have t1 := ha.same (s1.trans s2)
    have t2 := hb.same (s1.trans s2)
    refine ⟨_, rfl, a, _, rfl, .inr (.inl (.inl t1)), _, rfl, b, _, rfl, .inr (.inl (.inl t2)), rfl, _, rfl, iteNS (by rw [List.length_map, List.length_map, hl]) (q H2 (s1.trans s2))⟩
def sp_value : Sp := fun vs H Q _ => ∃ (a b : Addr) (f p : List Int), vs = [.ref a, .ref b] ∧ TI H a f ∧ LI H b p ∧ Nn f ∧ Nn p ∧ 0 < f.length ∧ f.length ≤ 4 ∧ p.length + 1 = f.length ∧ Bd f ∧ Bd p ∧ ∀ H', Same H H' → Q (.int (valL f p)) H'
theorem c_value (T : Txt K mg) : C8.Cal P w K mg base 6 "value" sp_value [] := by
  refine calF T.d_value sc_value (fun vs H Q E h => ?_) (fun f cdv A outer s H vs Q E hr h => ?_)
  · obtain ⟨_, _, _, _, rfl, _⟩ := h; rfl
  · obtain ⟨a, b, f, p, rfl, ha, hb, nf, np, h0, h4, hl, bf, bp, q⟩ := h
    refine ⟨_, (pss_cons (ps_expr (C8.pe_c (c_need_form T) hr (by decide) (by rfl) (pa_cons (pv 0) pa_nil)))
    (pss_cons (ps_expr (C8.pe_c (c_need_point T) hr (by decide) (by rfl) (pa_cons (pv 1) (pa_cons (pe_op op_sub (pe_callB call_len_seq (by rfl) T.m_len (by decide +kernel) (pa_cons (pv 0) pa_nil)) pe_int) pa_nil))))
    (pss_one (ps_ret (C8.pe_c (c_form_value T) hr (by decide) (by rfl) (pa_cons (pv 0) (pa_cons (pv 1) pa_nil))))))), ?_⟩
    refine ⟨_, rfl, a, f, rfl, ha, nf, h0, h4, fun H1 s1 => ?_⟩
    refine ⟨_, rfl, _, rfl, a, _, rfl, .inr (.inl (.inl (ha.same s1))), _, _, rfl, rfl, b, p, _, rfl, hb.same s1, small5 (by omega), by rw [List.length_map]; omega, np, fun H2 s2 => ?_⟩
    exact ⟨_, rfl, _, rfl, a, b, f, p, rfl, ha.same (s1.trans s2), hb.same (s1.trans s2), h0, h4, hl, bf, bp, fun H3 s3 => q H3 ((s1.trans s2).trans s3)⟩
def sp_added : Sp := fun vs H Q _ => ∃ (a b : Addr) (f g : List Int), vs = [.ref a, .ref b] ∧ TI H a f ∧ TI H b g ∧ Nn f ∧ Nn g ∧ 0 < f.length ∧ f.length ≤ 4 ∧ f.length = g.length ∧ ∀ p H', Same H H' → TI H' p (zadd f g) → Q (.ref p) H'
theorem c_added (T : Txt K mg) : C8.Cal P w K mg base 7 "added" sp_added [] := by
  refine calF T.d_added sc_added (fun vs H Q E h => ?_) (fun f cdv A outer s H vs Q E hr h => ?_)
  · obtain ⟨_, _, _, _, rfl, _⟩ := h; rfl
  · obtain ⟨a, b, f, g, rfl, ha, hb, nf, ng, h0, h4, hl, q⟩ := h
    refine ⟨_, (pss_cons (ps_expr (C8.pe_c (c_need_two_forms T) hr (by decide) (by rfl) (pa_cons (pv 0) (pa_cons (pv 1) pa_nil))))
    (pss_one (ps_ret (C8.pe_c (c_form_sum T) hr (by decide) (by rfl) (pa_cons (pv 0) (pa_cons (pv 1) pa_nil)))))), ?_⟩
    exact ⟨_, rfl, _, rfl, a, b, f, g, rfl, ha, hb, nf, ng, h0, h4, hl, fun H1 s1 => ⟨_, rfl, _, rfl, a, b, f, g, rfl, ha.same s1, hb.same s1, h4, hl, fun p H2 s2 t => q p H2 (s1.trans s2) t⟩⟩
def sp_scaled : Sp := fun vs H Q _ => ∃ (n : Int) (a : Addr) (f : List Int), vs = [.int n, .ref a] ∧ 0 ≤ n ∧ TI H a f ∧ Nn f ∧ 0 < f.length ∧ f.length ≤ 4 ∧ n.natAbs < 2 ^ 1000 ∧ Bd f ∧ ∀ p H', Same H H' → TI H' p (timesL n f) → Q (.ref p) H'
theorem c_scaled (T : Txt K mg) : C8.Cal P w K mg base 6 "scaled" sp_scaled [] := by
  refine calF T.d_scaled sc_scaled (fun vs H Q E h => ?_) (fun f cdv A outer s H vs Q E hr h => ?_)
  · obtain ⟨_, _, _, rfl, _⟩ := h; rfl
  · obtain ⟨n, a, f, rfl, hn, ha, nf, h0, h4, bn, bf, q⟩ := h
    refine ⟨_, (pss_cons (ps_expr (C8.pe_c (c_need_count T) hr (by decide) (by rfl) (pa_cons (pv 0) pa_nil)))
    (pss_cons (ps_expr (C8.pe_c (c_need_form T) hr (by decide) (by rfl) (pa_cons (pv 1) pa_nil)))
    (pss_one (ps_ret (C8.pe_c (c_form_times T) hr (by decide) (by rfl) (pa_cons (pv 0) (pa_cons (pv 1) pa_nil))))))), ?_⟩
    exact ⟨_, rfl, n, rfl, hn, _, rfl, a, f, rfl, ha, nf, h0, h4, fun H1 s1 => ⟨_, rfl, _, rfl, n, a, f, rfl, ha.same s1, h4, bn, bf, fun p H2 s2 t => q p H2 (s1.trans s2) t⟩⟩
def sp_below : Sp := fun vs H Q _ => ∃ (a b : Addr) (f g : List Int), vs = [.ref a, .ref b] ∧ TI H a f ∧ TI H b g ∧ Nn f ∧ Nn g ∧ 0 < f.length ∧ f.length ≤ 4 ∧ f.length = g.length ∧ ∀ H', Same H H' → Q (.bl ((zle f g).all id)) H'
theorem c_below (T : Txt K mg) : C8.Cal P w K mg base 7 "below" sp_below [] := by
  refine calF T.d_below sc_below (fun vs H Q E h => ?_) (fun f cdv A outer s H vs Q E hr h => ?_)
  · obtain ⟨_, _, _, _, rfl, _⟩ := h; rfl
  · obtain ⟨a, b, f, g, rfl, ha, hb, nf, ng, h0, h4, hl, q⟩ := h
    refine ⟨_, (pss_cons (ps_expr (C8.pe_c (c_need_two_forms T) hr (by decide) (by rfl) (pa_cons (pv 0) (pa_cons (pv 1) pa_nil))))
    (pss_one (ps_ret (C8.pe_c (c_at_most T) hr (by decide) (by rfl) (pa_cons (pv 0) (pa_cons (pv 1) pa_nil)))))), ?_⟩
    exact ⟨_, rfl, _, rfl, a, b, f, g, rfl, ha, hb, nf, ng, h0, h4, hl, fun H1 s1 => ⟨_, rfl, _, rfl, a, b, f, g, rfl, ha.same s1, hb.same s1, h4, hl, fun H2 s2 => q H2 (s1.trans s2)⟩⟩
def sp_inserted : Sp := fun vs H Q _ => ∃ (a b : Addr) (f : List Int) (m : Nat) (ps : List Addr) (fs : List (List Int)), vs = [.ref a, .int m, .ref b] ∧ TI H a f ∧ Nn f ∧ 0 < f.length ∧ f.length ≤ 4 ∧ Bd f ∧ m ≤ 3 ∧
  FL H b ps fs ∧ fs.length + 1 = f.length ∧ (∀ g ∈ fs, g.length = m + 1 ∧ Nn g ∧ Bd g) ∧ ∀ p H', Same H H' → TI H' p (insL f m fs) → Q (.ref p) H'
theorem c_inserted (T : Txt K mg) : C8.Cal P w K mg base 6 "inserted" sp_inserted [] := by
  refine calF T.d_inserted sc_inserted (fun vs H Q E h => ?_) (fun f cdv A outer s H vs Q E hr h => ?_)
  · obtain ⟨_, _, _, _, _, _, rfl, _⟩ := h; rfl
  · obtain ⟨a, b, f, m, ps, fs, rfl, ha, nf, h0, h4, bf, hm, F, hl, hf, q⟩ := h
    refine ⟨_, (pss_cons (ps_expr (C8.pe_c (c_need_form T) hr (by decide) (by rfl) (pa_cons (pv 0) pa_nil)))
    (pss_cons (ps_expr (C8.pe_c (c_need_many T) hr (by decide) (by rfl) (pa_cons (pv 1) pa_nil)))
    (pss_cons (ps_if (pt_not (pt_val (C8.pe_c (c_is_forms T) hr (by decide) (by rfl) (pa_cons (pv 2) (pa_cons (pe_op op_sub (pe_callB call_len_seq (by rfl) T.m_len (by decide +kernel) (pa_cons (pv 0) pa_nil)) pe_int) (pa_cons (pv 1) pa_nil))))))
    (pss_one ps_never)
    pss_nil)
    (pss_one (ps_ret (C8.pe_c (c_form_inserted T) hr (by decide) (by rfl) (pa_cons (pv 0) (pa_cons (pv 1) (pa_cons (pv 2) pa_nil))))))))), ?_⟩
    refine ⟨_, rfl, a, f, rfl, ha, nf, h0, h4, fun H1 s1 => ?_⟩
    refine ⟨_, rfl, m, rfl, by omega, by omega, ?_⟩
    refine ⟨_, rfl, _, rfl, a, _, rfl, .inr (.inl (.inl (ha.same s1))), _, _, rfl, rfl, _, rfl, b, ps, fs, _, m, rfl, F.same s1, by omega, by rw [List.length_map]; omega, fun g hg => ⟨(hf g hg).2.1, by rw [(hf g hg).1]; simp, by rw [(hf g hg).1]; omega⟩, fun H2 s2 => ⟨_, rfl, iteF ?_⟩⟩
    exact ⟨_, rfl, _, rfl, _, rfl, a, b, f, m, ps, fs, rfl, ha.same (s1.trans s2), h0, h4, bf, hm, F.same (s1.trans s2), hl, fun g hg => ⟨(hf g hg).1, (hf g hg).2.2⟩, fun p H3 s3 t => q p H3 ((s1.trans s2).trans s3) t⟩
end
end K11

set_option Elab.async false
set_option linter.all false
set_option maxRecDepth 100000
set_option maxHeartbeats 4000000
namespace K11
open PySem PySem.Spec PyProof.Rows L2 CK
section
variable {P : Program} {w : World} {K : PySem.W.Frag} {mg : Str → Option Value} {base : Heap}
/-! ### the law's own defs -/
theorem fm0 {i j : Int} (h : 0 < j) : 0 ≤ i.fmod j := Int.fmod_nonneg_of_pos i h
theorem fm1 {i j : Int} (h : 0 < j) : i.fmod j < j := Int.fmod_lt_of_pos i h
theorem ab {i : Int} {k : Nat} (h0 : 0 ≤ i) (h : i < 2 ^ k) : i.natAbs < 2 ^ k := by
  have e : ((2 ^ k : Nat) : Int) = 2 ^ k := by simp
  omega
def sp_hash : Sp := fun vs H Q _ => ∃ s i : Int, vs = [.int s, .int i] ∧ 0 ≤ s ∧ s < 2 ^ 31 ∧ 0 ≤ i ∧ i < 2 ^ 41 ∧ ∀ r : Int, 0 ≤ r → r < 2 ^ 31 → Q (.int r) H
theorem c_law_hash (T : Txt K mg) : C8.Cal P w K mg base 1 "_law_hash" sp_hash [] := by
  refine calF T.d_law_hash sc_law_hash (fun vs H Q E h => ?_) (fun f cdv A outer s H vs Q E hr h => ?_)
  · obtain ⟨_, _, rfl, _⟩ := h; rfl
  · obtain ⟨z, i, rfl, h0, h1, h2, h3, q⟩ := h
    refine ⟨_, (pss_cons (ps_set (i := 2) sc_law_hash.nd rfl (Or.inl rfl) (pe_op op_modN (pe_callTy call_int1 (by rfl) T.m_int (by decide +kernel) (pa_cons (pe_op op_add (pe_op op_add (pe_op op_add (pe_op op_mulW (pv 0) pe_int) (pe_op op_mulW (pe_op op_mulW pe_int (pv 1)) (pv 1))) (pe_op op_mulW pe_int (pv 1))) pe_int) pa_nil)) pe_int))
    (pss_cons (ps_set (i := 2) sc_law_hash.nd rfl (Or.inl rfl) (pe_op op_modN (pe_callTy call_int1 (by rfl) T.m_int (by decide +kernel) (pa_cons (pe_op op_add (pe_op op_add (pe_op op_mulW (pv 2) (pv 2)) (pe_op op_mulW pe_int (pv 1))) pe_int) pa_nil)) pe_int))
    (pss_one (ps_ret (pe_op op_modN (pe_callTy call_int1 (by rfl) T.m_int (by decide +kernel) (pa_cons (pe_op op_mulW (pv 2) pe_int) pa_nil)) pe_int))))), ?_⟩
    have a1 : z.natAbs < 2 ^ 100 := ab h0 (by omega)
    have a2 : i.natAbs < 2 ^ 100 := ab h2 (by omega)
    have a3 : ((27644437 : Int)).natAbs < 2 ^ 100 := by decide
    have a4 := wide_lt a3 a2
    refine ⟨_, rfl, z, _, rfl, rfl, wide_mul a1 (show ((1140671 : Int)).natAbs < 2 ^ 100 by decide) (by decide) (by decide) (by decide), ?_⟩
    refine ⟨_, rfl, _, i, rfl, rfl, wide_mul a3 a2 (by decide) (by decide) (by decide), _, rfl, _, i, rfl, rfl, wide_mul a4 a2 (by decide) (by decide) (by decide), _, _, rfl, rfl, ?_⟩
    refine ⟨_, rfl, _, i, rfl, rfl, wide_mul (show ((131 : Int)).natAbs < 2 ^ 100 by decide) a2 (by decide) (by decide) (by decide), _, _, rfl, rfl, _, _, rfl, rfl, .inl ⟨_, rfl, _, _, rfl, rfl, (by decide : (2147483629 : Int) ≠ 0), ?_⟩⟩
    obtain ⟨m, hm⟩ : ∃ m, (z * 1140671 + 27644437 * i * i + 131 * i + 19).fmod 2147483629 = m := ⟨_, rfl⟩
    have m0 : 0 ≤ m := by rw [← hm]; exact fm0 (by decide)
    have m1 : m < 2147483629 := by rw [← hm]; exact fm1 (by decide)
    have a5 : m.natAbs < 2 ^ 100 := ab m0 (by omega)
    refine ⟨_, rfl, _, rfl, m, m, congrArg V.int hm, congrArg V.int hm, wide_mul a5 a5 (by decide) (by decide) (by decide), ?_⟩
    refine ⟨_, rfl, _, i, rfl, rfl, wide_mul (show ((62089 : Int)).natAbs < 2 ^ 100 by decide) a2 (by decide) (by decide) (by decide), _, _, rfl, rfl, _, _, rfl, rfl, .inl ⟨_, rfl, _, _, rfl, rfl, (by decide : (2147483587 : Int) ≠ 0), ?_⟩⟩
    obtain ⟨k, hk⟩ : ∃ k, (m * m + 62089 * i + 32416187).fmod 2147483587 = k := ⟨_, rfl⟩
    have k0 : 0 ≤ k := by rw [← hk]; exact fm0 (by decide)
    have k1 : k < 2147483587 := by rw [← hk]; exact fm1 (by decide)
    have a6 : k.natAbs < 2 ^ 100 := ab k0 (by omega)
    refine ⟨_, rfl, k, _, congrArg V.int hk, rfl, wide_mul a6 (show ((48271 : Int)).natAbs < 2 ^ 100 by decide) (by decide) (by decide) (by decide), .inl ⟨_, rfl, _, _, rfl, rfl, (by decide : (2147483647 : Int) ≠ 0), ?_⟩⟩
    exact q _ (fm0 (by decide)) (Int.lt_trans (fm1 (by decide)) (by decide))
def sp_random : Sp := fun vs H Q _ => ∃ (g : Addr) (b : Int) (n : Nat), vs = [.ref g, .int b] ∧ Gn (n + 1) H g ∧ 1 ≤ b ∧ b < 2 ^ 200 ∧ ∀ (r : Int) H', SameX g H H' → Gn n H' g → 0 ≤ r → r < b → Q (.int r) H'
theorem pow32 (i : Nat) : (2 : Int) ^ (32 * (i + 1)) = 2 ^ (32 * i) * 4294967296 := by
  rw [Nat.mul_add, Int.pow_add]
  rfl
theorem pow_ge1 (i : Nat) : (1 : Int) ≤ 2 ^ i := by
  have := Int.pow_pos (n := 2) (m := i) (by decide)
  omega
theorem c_law_random (T : Txt K mg) : C8.Cal P w K mg base 2 "_law_random" sp_random [] := by
  refine calF T.d_law_random sc_law_random (fun vs H Q E h => ?_) (fun f cdv A outer s H vs Q E hr h => ?_)
  · obtain ⟨_, _, _, rfl, _⟩ := h; rfl
  · obtain ⟨g, b, n, rfl, G, hb, hb2, q⟩ := h
    refine ⟨_, (pss_cons (ps_if (pt_cmpR op_gt (pe_ix ix_list (pv 0) pe_int (fun _ _ => rfl)) pe_int (nomark _))
    (pss_cons (ps_set (i := 2) sc_law_random.nd rfl (Or.inl rfl) (pe_op op_modN (pe_callTy call_int1 (by rfl) T.m_int (by decide +kernel) (pa_cons (pe_ix ix_list (pv 0) pe_int (fun _ _ => rfl)) pa_nil)) (pv 1)))
    (pss_cons (ps_asg (pe_op op_fdivW (pe_ix ix_list (pv 0) pe_int (fun _ _ => rfl)) (pv 1)) (pg_sub (pv 0) pe_int set_list))
    (pss_one (ps_ret (pv 2)))))
    pss_nil)
    (pss_cons (ps_set (i := 2) sc_law_random.nd rfl (Or.inl rfl) pe_int)
    (pss_cons (ps_for PassesOwn.never rfl (pi_range1 (by rfl) T.m_range (pa_cons (pe_op op_add pe_int (pe_op op_fdivW (pe_bits (pv 1)) pe_int)) pa_nil)) (pg_name (i := 3) sc_law_random.nd rfl (Or.inl rfl))
    (pss_cons (ps_asg (pe_op op_add (pe_ix ix_list (pv 0) pe_int (fun _ _ => rfl)) pe_int) (pg_sub (pv 0) pe_int set_list))
    (pss_one (ps_set (i := 2) sc_law_random.nd rfl (Or.inl rfl) (pe_op op_add (pe_op op_mulW (pv 2) pe_int) (C8.pe_c (c_law_hash T) hr (by decide) (by rfl) (pa_cons (pe_ix ix_list (pv 0) pe_int (fun _ _ => rfl)) (pa_cons (pe_ix ix_list (pv 0) pe_int (fun _ _ => rfl)) pa_nil))))))))
    (pss_one (ps_ret (pe_op op_modN (pe_callTy call_int1 (by rfl) T.m_int (by decide +kernel) (pa_cons (pv 2) pa_nil)) (pv 1))))))), ?_⟩
    obtain ⟨x, y, c, hg, x0, y0, y1, c0, c1⟩ := G
    refine ⟨_, rfl, g, _, 0, .int x, rfl, rfl, .inl (.inl hg), atI_nat (j := 0) rfl, x, 0, rfl, rfl, _, rfl, ite2 (fun e => ?_) (fun e => ?_)⟩
    · -- a digit
      refine ⟨_, rfl, g, _, 0, .int x, rfl, rfl, .inl (.inl hg), atI_nat (j := 0) rfl, .inl ⟨x, rfl, _, rfl, x, b, rfl, rfl, by omega, ?_⟩⟩
      refine ⟨_, rfl, g, _, 0, .int x, rfl, rfl, .inl (.inl hg), atI_nat (j := 0) rfl, _, rfl, x, b, rfl, rfl, wide_div (b := 200) (by omega) (ab (by omega) hb2) (by decide) (by decide), _, rfl, g, _, 0, 0, rfl, rfl, hg, rfl, ?_⟩
      exact ⟨_, rfl, q _ _ sameX_upd ⟨x / b, y, c, upd_same, Int.ediv_nonneg x0 (by omega), y0, y1, c0, by omega⟩ (fm0 (by omega)) (fm1 (by omega))⟩
    · -- by the hash
      have ib : Builtin.Int.intBits b ≤ 200 := intBits_le (ab (by omega) hb2)
      have tn : (1 + ((Builtin.Int.intBits b : Nat) : Int) / 30).toNat ≤ 7 := by omega
      refine ⟨_, rfl, b, rfl, _, _, rfl, rfl, wide_div (b := 200) (by decide) (by decide) (by decide) (by decide), _, _, rfl, rfl, _, rfl, by omega, by omega, ?_⟩
      refine for_it walk_range (fun i σ H3 => ∃ (d : Int) (y3 : Option V) (c3 : Int), σ = [some (.ref g), some (.int b), some (.int d), y3] ∧ SameX g H H3 ∧ H3 g = some (.lst [.int x, .int y, .int c3]) ∧ c3 = c + i ∧ 0 ≤ d ∧ d < 2 ^ (32 * i) ∧ i ≤ 7)
        ⟨0, none, c, rfl, .refl _ _, hg, by simp, Int.le_refl _, by decide, by decide⟩ (fun _ _ _ _ _ => True.intro) (fun i v σ H3 H4 hi p yy => ?_) fun σ H3 p => ?_
      · obtain ⟨d, y3, c3, rfl, s3, g3, ec, d0, d1, i7⟩ := p
        obtain ⟨rfl, rfl⟩ := yy
        have i6 : i ≤ 6 := by omega
        have u1 : (upd H4 g (.lst [.int x, .int y, .int (c3 + 1)])) g = some (.lst [.int x, .int y, .int (c3 + 1)]) := upd_same
        refine ⟨_, rfl, g, _, 2, .int c3, rfl, rfl, .inl (.inl g3), atI_nat (j := 2) rfl, _, _, rfl, rfl, _, rfl, g, _, 2, 2, rfl, rfl, g3, rfl, ?_⟩
        have ad : d.natAbs < 2 ^ (32 * i + 1) := ab d0 (Int.lt_of_lt_of_le d1 (by rw [Int.pow_succ]; have := pow_ge1 (32 * i); omega))
        refine ⟨_, rfl, d, _, rfl, rfl, wide_mul ad (show ((2147483587 : Int)).natAbs < 2 ^ 100 by decide) (by omega) (by decide) (by omega), ?_⟩
        refine ⟨_, rfl, g, _, 1, .int y, rfl, rfl, .inl (.inl u1), atI_nat (j := 1) rfl, _, rfl, g, _, 2, .int (c3 + 1), rfl, rfl, .inl (.inl u1), atI_nat (j := 2) rfl, y, c3 + 1, rfl, y0, y1, by omega, by omega, fun r r0 r1 => ⟨_, _, rfl, rfl, ?_⟩⟩
        refine ⟨_, _, c3 + 1, rfl, fun z o nz e => by rw [upd_ne nz]; exact s3 z o nz e, u1, by omega, by have : 0 ≤ d * 2147483587 := Int.mul_nonneg d0 (by decide); omega, ?_, by omega⟩
        rw [pow32]
        have := pow_ge1 (32 * i)
        omega
      · obtain ⟨d, y3, c3, rfl, s3, g3, ec, d0, d1, i7⟩ := p
        refine ⟨_, rfl, .inl ⟨d, rfl, _, rfl, d, b, rfl, rfl, by omega, ?_⟩⟩
        exact q _ _ s3 ⟨x, y, c3, g3, x0, y0, y1, by omega, by omega⟩ (fm0 (by omega)) (fm1 (by omega))
def sp_cell (K : PySem.W.Frag) : Sp := fun vs H Q _ => ∃ (a : Addr) (ns : List Int) (i : Nat), vs = [.ref a, .int i] ∧ SqL K H a (ns.map V.int) ∧ ∀ (r : Int) H', Same H H' → Q (.int r) H'
theorem c_law_cell (T : Txt K mg) : C8.Cal P w K mg base 1 "_law_cell" (sp_cell K) [] := by
  refine calF T.d_law_cell sc_law_cell (fun vs H Q E h => ?_) (fun f cdv A outer s H vs Q E hr h => ?_)
  · obtain ⟨_, _, _, rfl, _⟩ := h; rfl
  · obtain ⟨a, ns, i, rfl, ha, q⟩ := h
    refine ⟨_, (pss_cons (ps_if (pt_cmpR op_lt (pv 1) (pe_callB call_len_seq (by rfl) T.m_len (by decide +kernel) (pa_cons (pv 0) pa_nil)) (nomark _))
    (pss_one (ps_ret (pe_ix ix_list (pv 0) (pv 1) (fun _ _ => rfl))))
    pss_nil)
    (pss_one (ps_ret (pe_op op_modN (pe_callB (cr_sum rfl) (by rfl) T.m_sum (by decide +kernel) (pa_cons (pe_slice sl_list (pv 0) po_none (po_some pe_int)) pa_nil)) pe_int)))), ?_⟩
    refine ⟨_, rfl, _, rfl, a, _, rfl, .inl ha, _, _, rfl, rfl, _, rfl, ite2 (fun e => ?_) (fun e => ?_)⟩
    · have e' := of_decide_eq_true e
      rw [List.length_map] at e'
      have hi : i < ns.length := by omega
      refine ⟨_, rfl, _, rfl, a, _, i, .int ns[i], rfl, rfl, ha, atI_nat ?_, q _ H (Same.refl _)⟩
      rw [List.getElem?_map, List.getElem?_eq_getElem hi]
      rfl
    · refine ⟨_, rfl, 1, rfl, a, _, rfl, ha, fun p hp => ?_⟩
      refine ⟨p, ns.take 1, rfl, .inl (.inl ?_), _, _, rfl, rfl, (by decide : (1000003 : Int) ≠ 0), q _ _ (sameNew hp)⟩
      rw [upd_same, show ((1 : Int)) = ((1 : Nat) : Int) from rfl, cutV_take, List.map_take]
def sp_generator (K : PySem.W.Frag) : Sp := fun vs H Q _ => ∃ (a : Addr) (ns : List Int) (i : Nat), vs = [.ref a, .int i] ∧ SqL K H a (ns.map V.int) ∧ i ≤ 10 ∧ ∀ g H1 H', Same H H1 → H1 g = none → Same H1 H' → Gn 100000 H' g → Q (.ref g) H'
theorem c_law_generator (T : Txt K mg) : C8.Cal P w K mg base 2 "_law_generator" (sp_generator K) [] := by
  refine calF T.d_law_generator sc_law_generator (fun vs H Q E h => ?_) (fun f cdv A outer s H vs Q E hr h => ?_)
  · obtain ⟨_, _, _, rfl, _⟩ := h; rfl
  · obtain ⟨a, ns, i, rfl, ha, hi, q⟩ := h
    refine ⟨_, (pss_cons (ps_set (i := 2) sc_law_generator.nd rfl (Or.inl rfl) (C8.pe_c (c_law_cell T) hr (by decide) (by rfl) (pa_cons (pv 0) (pa_cons (pv 1) pa_nil))))
    (pss_one (ps_ret (pe_lst (pa_cons (pe_op op_modN (pe_callTy call_int1 (by rfl) T.m_int (by decide +kernel) (pa_cons (pe_callB (call_max2 rfl) (by rfl) T.m_max (by decide +kernel) (pa_cons (pe_op op_sub (pv 2) (pe_op op_powB pe_int pe_int)) (pa_cons pe_int pa_nil))) pa_nil)) (pe_op op_powB (pe_op op_powB pe_int pe_int) pe_int)) (pa_cons (pe_op op_modN (pe_callTy call_int1 (by rfl) T.m_int (by decide +kernel) (pa_cons (pv 2) pa_nil)) pe_int) (pa_cons (pe_op op_mulW pe_int (pv 1)) pa_nil))))))), ?_⟩
    refine ⟨_, rfl, _, rfl, a, ns, i, rfl, ha, fun r H1 s1 => ?_⟩
    refine ⟨_, rfl, _, _, rfl, rfl, ⟨by decide, by decide⟩, _, _, rfl, rfl, _, _, rfl, .inl ⟨_, rfl, _, _, rfl, rfl, ⟨by decide, by decide⟩, _, _, rfl, rfl, ⟨by decide, by decide⟩, _, _, rfl, rfl, (by decide : ((10 : Int) ^ Int.toNat 60) ^ Int.toNat 10 ≠ 0), ?_⟩⟩
    refine ⟨_, rfl, .inl ⟨_, rfl, _, _, rfl, rfl, (by decide : (2147483647 : Int) ≠ 0), ?_⟩⟩
    refine ⟨_, rfl, _, _, rfl, rfl, wide_mul (show ((1000 : Int)).natAbs < 2 ^ 100 by decide) (show ((i : Int)).natAbs < 2 ^ 100 by omega) (by decide) (by decide) (by decide), by show 3 ≤ sizeLine; decide, fun g hg => ?_⟩
    refine q g H1 _ s1 hg (sameNew hg) ⟨_, _, _, upd_same, fm0 (by decide), fm0 (by decide), Int.lt_trans (fm1 (by decide)) (by decide), by omega, by omega⟩
end
end K11

set_option Elab.async false
set_option linter.all false
set_option maxRecDepth 100000
set_option maxHeartbeats 4000000
namespace K11
open PySem PySem.Spec PyProof.Rows L2 CK
section
variable {P : Program} {w : World} {K : PySem.W.Frag} {mg : Str → Option Value} {base : Heap}
/-- whole numbers from 0 to most -/
def In0 (most : Int) (ns : List Int) : Prop := ∀ x ∈ ns, 0 ≤ x ∧ x ≤ most
def sp_law_form : Sp := fun vs H Q _ => ∃ (g : Addr) (m n : Nat) (most : Int), vs = [.ref g, .int m, .int most] ∧ Gn (n + (m + 1)) H g ∧ m ≤ 3 ∧ 0 ≤ most ∧ most < 2 ^ 199 ∧
  ∀ p ns H', SameX g H H' → Gn n H' g → TI H' p ns → ns.length = m + 1 → In0 most ns → Q (.ref p) H'
theorem c_law_form (T : Txt K mg) : C8.Cal P w K mg base 3 "_law_form" sp_law_form [] := by
  refine calF T.d_law_form sc_law_form (fun vs H Q E h => ?_) (fun f cdv A outer s H vs Q E hr h => ?_)
  · obtain ⟨_, _, _, _, rfl, _⟩ := h; rfl
  · obtain ⟨g, m, n, most, rfl, G, hm, h0, h1, q⟩ := h
    refine ⟨_, (pss_one (ps_ret (pe_callTy call_tupL (by rfl) T.m_tuple (by decide +kernel) (pa_cons (pe_lc (own := [("_law_turn", 3)]) (by rfl) sc_law_form.nd (pi_range1 (by rfl) T.m_range (pa_cons (pe_op op_add (pv 1) pe_int) pa_nil)) (blkOk_by (N := ["_law_generator_here", "_law_many", "_law_most", "_law_turn"]) (sc := C8.fnScope (topS 41)) (own := [("_law_turn", 3)]) (by decide +kernel)) (fun _ _ _ _ _ => (pg_name (i := 3) sc_law_form.nd rfl (Or.inl rfl))) (fun _ _ _ _ _ => pts_nil) (fun _ _ _ _ _ => (C8.pe_c (c_law_random T) hr (by decide) (by rfl) (pa_cons (pv 0) (pa_cons (pe_op op_add (pv 2) pe_int) pa_nil))))) pa_nil)))), ?_⟩
    refine ⟨_, rfl, _, _, rfl, rfl, _, rfl, by omega, by omega, ?_⟩
    refine fun D hD => lcD_draw (cnt := m + 1) (n := n) (g := g) (most := most) (small5 (by omega)) hD G (fun i H3 R hi s3 G3 q' => ?_) fun H3 ns s3 G3 hL hl hb => ?_
    · exact ⟨rfl, _, rfl, _, rfl, most, 1, rfl, rfl, g, most + 1, _, rfl, G3, by omega, by omega, fun r H4 s4 G4 r0 r1 => q' r H4 s4 G4 r0 (by omega)⟩
    · exact ⟨D, _, rfl, hL, fun l H4 s4 h4 => q l ns H4 (s3.trans (.of s4)) (G3.same s4) h4 hl hb⟩
def sp_law_point : Sp := fun vs H Q _ => ∃ (g : Addr) (m n : Nat) (most : Int), vs = [.ref g, .int m, .int most] ∧ Gn (n + m) H g ∧ m ≤ 3 ∧ 0 ≤ most ∧ most < 2 ^ 199 ∧
  ∀ p ns H', SameX g H H' → Gn n H' g → H p = none → LI H' p ns → ns.length = m → In0 most ns → Q (.ref p) H'
theorem c_law_point (T : Txt K mg) : C8.Cal P w K mg base 3 "_law_point" sp_law_point [] := by
  refine calF T.d_law_point sc_law_point (fun vs H Q E h => ?_) (fun f cdv A outer s H vs Q E hr h => ?_)
  · obtain ⟨_, _, _, _, rfl, _⟩ := h; rfl
  · obtain ⟨g, m, n, most, rfl, G, hm, h0, h1, q⟩ := h
    refine ⟨_, (pss_one (ps_ret (pe_lc (own := [("_law_turn", 3)]) (by rfl) sc_law_point.nd (pi_range1 (by rfl) T.m_range (pa_cons (pv 1) pa_nil)) (blkOk_by (N := ["_law_generator_here", "_law_many", "_law_most", "_law_turn"]) (sc := C8.fnScope (topS 43)) (own := [("_law_turn", 3)]) (by decide +kernel)) (fun _ _ _ _ _ => (pg_name (i := 3) sc_law_point.nd rfl (Or.inl rfl))) (fun _ _ _ _ _ => pts_nil) (fun _ _ _ _ _ => (C8.pe_c (c_law_random T) hr (by decide) (by rfl) (pa_cons (pv 0) (pa_cons (pe_op op_add (pv 2) pe_int) pa_nil))))))), ?_⟩
    refine ⟨_, rfl, _, rfl, by omega, by omega, ?_⟩
    refine fun D hD => lcD_draw (cnt := m) (n := n) (g := g) (most := most) (small5 (by omega)) hD G (fun i H3 R hi s3 G3 q' => ?_) fun H3 ns s3 G3 hL hl hb => ?_
    · exact ⟨rfl, _, rfl, _, rfl, most, 1, rfl, rfl, g, most + 1, _, rfl, G3, by omega, by omega, fun r H4 s4 G4 r0 r1 => q' r H4 s4 G4 r0 (by omega)⟩
    · exact q D ns H3 s3 G3 hD hL hl hb
theorem c_law_value (T : Txt K mg) : C8.Cal P w K mg base 1 "_law_value" sp_form_value [] := by
  refine calF T.d_law_value sc_law_value (fun vs H Q E h => ?_) (fun f cdv A outer s H vs Q E hr h => ?_)
  · obtain ⟨_, _, _, _, rfl, _⟩ := h; rfl
  · obtain ⟨a, b, f, p, rfl, ha, hb, h0, h4, hl, bf, bp, q⟩ := h
    refine ⟨_, (pss_one (ps_ret (pe_op op_add (pe_ix ix_tup (pv 0) pe_int (fun _ _ => rfl)) (pe_callB (cr_sum rfl) (by rfl) T.m_sum (by decide +kernel) (pa_cons (pe_lc (own := [("_law_number", 2), ("_law_count", 3)]) (by rfl) sc_law_value.nd (pi_zipB (K := K) rfl (by rfl) T.m_zip (pa_cons (pe_slice sl_drop (pv 0) (po_some pe_int) po_none) (pa_cons (pv 1) pa_nil))) (blkOk_by (N := ["_law_form_here", "_law_point_here", "_law_number", "_law_count"]) (sc := C8.fnScope (topS 42)) (own := [("_law_number", 2), ("_law_count", 3)]) (by decide +kernel)) (fun _ _ _ _ _ => (pg_two (K := K) (i := 2) (j := 3) rfl rfl sc_law_value.nd rfl rfl (Or.inl rfl) (Or.inl rfl))) (fun _ _ _ _ _ => pts_nil) (fun _ _ _ _ _ => (pe_op op_mulW (pv 2) (pv 3)))) pa_nil))))), ?_⟩
    obtain ⟨c, r, rfl⟩ : ∃ c r, f = c :: r := by cases f with | nil => simp at h0 | cons c r => exact ⟨c, r, rfl⟩
    refine ⟨_, rfl, a, _, 0, .int c, rfl, rfl, .inl (.inl ha), atI_nat (j := 0) rfl, ?_⟩
    refine ⟨_, rfl, 1, rfl, a, _, 1, rfl, rfl, rfl, ha, fun p1 H1 s1 h1 => ?_⟩
    have hb1 : LI H1 b p := hb.same s1
    have h1' : TI H1 p1 r := h1
    refine ⟨_, rfl, .T, .L, p1, b, r.map V.int, p.map V.int, rfl, .inl (.inl h1'), .inl (.inl hb1), ?_⟩
    refine fun D hD => lcZ_map vMul (by simp at hl ⊢; omega) (by rw [List.length_map]; exact small5 (by simp at h4; omega)) (fun H' s => ⟨.inl (.inl (s _ _ h1')), .inl (.inl (s _ _ hb1))⟩) (fun i x y H' R hx hy s q' => ?_) hD fun H' s hL => ?_
    · obtain ⟨x', mx, _, rfl⟩ := get_int hx
      obtain ⟨y', my, _, rfl⟩ := get_int hy
      exact ⟨rfl, _, rfl, _, rfl, x', y', rfl, rfl, mulOk (bf x' (List.mem_cons_of_mem _ mx)) (bp y' my), q' _ (Same.refl _)⟩
    · rw [zip_mul] at hL
      exact ⟨D, _, rfl, .inl (.inl hL), _, _, rfl, rfl, q H' (s1.trans s)⟩
def sp_law_yes : Sp := fun vs H Q _ => ∃ b c : Bool, vs = [.bl b, .bl c] ∧ b = c ∧ Q (.bl true) H
theorem c_law_yes (T : Txt K mg) : C8.Cal P w K mg base 1 "_law_yes" sp_law_yes [] := by
  refine calF T.d_law_yes sc_law_yes (fun vs H Q E h => ?_) (fun f cdv A outer s H vs Q E hr h => ?_)
  · obtain ⟨_, _, rfl, _⟩ := h; rfl
  · obtain ⟨b, c, rfl, rfl, q⟩ := h
    refine ⟨_, (pss_one (ps_ret (pe_and (pe_callB call_isK (by rfl) T.m_isinstance (by decide +kernel) (pa_cons (pv 0) (pa_cons (pe_bltn (v := .ty "bool") (by rfl) T.m_bool (by decide +kernel) rfl) pa_nil))) (pe_one (pe_cmpR op_eq (pv 0) (pv 1) (nomark _)))))), ?_⟩
    refine ⟨_, rfl, .bl b, "bool", _, rfl, .bl b, kit_bool (.bl b), _, rfl, iteT ⟨_, rfl, _, rfl, rfl, ?_⟩⟩
    rw [decide_eq_true rfl]
    exact q
def sp_law_is_whole : Sp := fun vs H Q _ => ∃ b : Int, vs = [.int b, .int b] ∧ Q (.bl true) H
theorem c_law_is_whole (T : Txt K mg) : C8.Cal P w K mg base 1 "_law_is_whole" sp_law_is_whole [] := by
  refine calF T.d_law_is_whole sc_law_is_whole (fun vs H Q E h => ?_) (fun f cdv A outer s H vs Q E hr h => ?_)
  · obtain ⟨_, rfl, _⟩ := h; rfl
  · obtain ⟨b, rfl, q⟩ := h
    refine ⟨_, (pss_one (ps_ret (pe_and (pe_callB call_isK (by rfl) T.m_isinstance (by decide +kernel) (pa_cons (pv 0) (pa_cons (pe_bltn (v := .ty "int") (by rfl) T.m_int (by decide +kernel) rfl) pa_nil))) (pe_and (pe_not (pe_callB call_isK (by rfl) T.m_isinstance (by decide +kernel) (pa_cons (pv 0) (pa_cons (pe_bltn (v := .ty "bool") (by rfl) T.m_bool (by decide +kernel) rfl) pa_nil)))) (pe_one (pe_cmpR op_eq (pv 0) (pv 1) (nomark _))))))), ?_⟩
    refine ⟨_, rfl, .int b, "int", _, rfl, .int b, kit_int (.int b), _, rfl, iteT ⟨_, rfl, .int b, "bool", _, rfl, .int b, kit_bool (.int b), _, rfl, _, rfl, iteT ⟨_, rfl, _, rfl, rfl, ?_⟩⟩⟩
    rw [decide_eq_true rfl]
    exact q
def sp_law_near : Sp := fun vs H Q _ => ∃ (g a : Addr) (f : List Int) (m n : Nat) (most : Int), vs = [.ref g, .ref a, .int most] ∧ TI H a f ∧ f.length = m + 1 ∧ m ≤ 3 ∧ In0 most f ∧ Gn (n + 2 + (m + 1)) H g ∧ 0 ≤ most ∧ most < 2 ^ 199 ∧
  ∀ p ns H', SameX g H H' → Gn n H' g → TI H' p ns → ns.length = m + 1 → In0 (most + 1) ns → Q (.ref p) H'
theorem In0.set {most v : Int} {ns : List Int} (h : In0 most ns) (h0 : 0 ≤ v) (h1 : v ≤ most) (j : Nat) : In0 most (ns.set j v) := fun x hx => by
  rcases List.mem_or_eq_of_mem_set hx with z | z
  · exact h x z
  · rw [z]
    exact ⟨h0, h1⟩
theorem In0.mono {most most' : Int} {ns : List Int} (h : In0 most ns) (hm : most ≤ most') : In0 most' ns := fun x hx => ⟨(h x hx).1, Int.le_trans (h x hx).2 hm⟩
theorem c_law_near (T : Txt K mg) : C8.Cal P w K mg base 4 "_law_near" sp_law_near [] := by
  refine calF T.d_law_near sc_law_near (fun vs H Q E h => ?_) (fun f cdv A outer s H vs Q E hr h => ?_)
  · obtain ⟨_, _, _, _, _, _, rfl, _⟩ := h; rfl
  · obtain ⟨g, a, f, m, n, most, rfl, ha, hl, hm, hf, G, h0, h1, q⟩ := h
    refine ⟨_, (pss_cons (ps_set (i := 3) sc_law_near.nd rfl (Or.inl rfl) (pe_callTy call_list_of (by rfl) T.m_list (by decide +kernel) (pa_cons (C8.pe_c (c_law_form T) hr (by decide) (by rfl) (pa_cons (pv 0) (pa_cons (pe_op op_sub (pe_callB call_len_seq (by rfl) T.m_len (by decide +kernel) (pa_cons (pv 1) pa_nil)) pe_int) (pa_cons (pv 2) pa_nil)))) pa_nil)))
    (pss_cons (ps_par (i := 4) (j := 5) (by rfl) sc_law_near.nd rfl rfl (by decide) rfl rfl (pa_cons (C8.pe_c (c_law_random T) hr (by decide) (by rfl) (pa_cons (pv 0) (pa_cons pe_int pa_nil))) (pa_cons (C8.pe_c (c_law_random T) hr (by decide) (by rfl) (pa_cons (pv 0) (pa_cons (pe_callB call_len_seq (by rfl) T.m_len (by decide +kernel) (pa_cons (pv 1) pa_nil)) pa_nil))) pa_nil)) (by rfl))
    (pss_cons (ps_if (pt_cmpR op_eq (pv 4) pe_int (nomark _))
    (pss_one (ps_ret (pe_callTy call_tupL (by rfl) T.m_tuple (by decide +kernel) (pa_cons (pv 3) pa_nil))))
    pss_nil)
    (pss_cons (ps_set (i := 6) sc_law_near.nd rfl (Or.inl rfl) (pe_callTy call_list_of (by rfl) T.m_list (by decide +kernel) (pa_cons (pv 1) pa_nil)))
    (pss_cons (ps_asg (pe_ifExp (pt_cmpR op_eq (pv 4) pe_int (nomark _)) (pe_op op_add (pe_ix ix_list (pv 6) (pv 5) (fun _ _ => rfl)) pe_int) (pe_callB (call_max2 rfl) (by rfl) T.m_max (by decide +kernel) (pa_cons pe_int (pa_cons (pe_op op_sub (pe_ix ix_list (pv 6) (pv 5) (fun _ _ => rfl)) pe_int) pa_nil)))) (pg_sub (pv 6) (pv 5) set_list))
    (pss_one (ps_ret (pe_callTy call_tupL (by rfl) T.m_tuple (by decide +kernel) (pa_cons (pv 6) pa_nil))))))))), ?_⟩
    have ll : ((f.map V.int).length : Int) = (m : Int) + 1 := by rw [List.length_map, hl]; simp
    refine ⟨_, rfl, _, rfl, a, _, rfl, .inr (.inl (.inl ha)), _, 1, rfl, rfl, _, rfl, g, m, n + 2, most, by show [V.ref g, V.int (((f.map V.int).length : Int) - 1), V.int most] = _; rw [ll, show (m : Int) + 1 - 1 = (m : Int) by omega], G, hm, h0, h1, fun p1 ns H1 s1 G1 t1 l1 b1 => ?_⟩
    refine ⟨p1, _, rfl, .inr (.inl (.inl t1)), fun L nL => ?_⟩
    have LG := G1.ne nL
    have s2 : SameX g H (upd H1 L (.lst (ns.map V.int))) := s1.trans (sameX_new nL)
    have G2 : Gn (n + 1 + 1) (upd H1 L (.lst (ns.map V.int))) g := G1.upd LG
    refine ⟨_, rfl, g, 3, n + 1, rfl, G2, by decide, by decide, fun way H3 s3 G3 w0 w1 => ?_⟩
    have ha3 : H3 a = some (.tup (f.map V.int)) := (s2.trans s3).tup G ha
    have hL3 : H3 L = some (.lst (ns.map V.int)) := s3 L _ LG upd_same
    refine ⟨_, rfl, _, rfl, a, _, rfl, .inr (.inl (.inl ha3)), g, _, n, rfl, G3, by omega, by omega, fun at_ H4 s4 G4 a0 a1 => ⟨_, _, rfl, ?_⟩⟩
    have ha4 : H4 a = some (.tup (f.map V.int)) := ((s2.trans s3).trans s4).tup G ha
    have hL4 : H4 L = some (.lst (ns.map V.int)) := s4 L _ LG hL3
    have sx : SameX g H H4 := (s2.trans s3).trans s4
    refine ⟨_, rfl, rfl, _, rfl, ite2 (fun e => ?_) (fun e => ?_)⟩
    · exact ⟨_, rfl, L, _, rfl, hL4, fun l H5 s5 h5 => q l ns H5 (sx.trans (.of s5)) (G4.same s5) h5 l1 (b1.mono (by omega))⟩
    · refine ⟨_, rfl, a, _, rfl, .inr (.inl (.inl ha4)), fun N nN => ?_⟩
      have NG := G4.ne nN
      obtain ⟨j, rfl⟩ : ∃ j : Nat, at_ = j := ⟨at_.toNat, by omega⟩
      have jl : j < f.length := by omega
      have hj : (f.map V.int)[j]? = some (.int f[j]) := by rw [List.getElem?_map, List.getElem?_eq_getElem jl]; rfl
      have fj := hf f[j] (List.getElem_mem jl)
      have u1 : (upd H4 N (.lst (f.map V.int))) N = some (.lst (f.map V.int)) := upd_same
      have ix : ixN (f.map V.int).length (j : Int) = some j := ix_at (by rw [List.length_map]; exact jl)
      have fin : ∀ v : Int, 0 ≤ v → v ≤ most + 1 → ∀ H5, H5 = upd (upd H4 N (.lst (f.map V.int))) N (.lst ((f.map V.int).set j (.int v))) → ∀ l H6, Same H5 H6 → H6 l = some (.tup ((f.map V.int).set j (.int v))) → Q (.ref l) H6 := fun v v0 v1 H5 e5 l H6 s6 h6 => by
        have s5 : SameX g H H5 := by
          rw [e5, upd_upd]
          exact sx.trans (sameX_new nN)
        refine q l (f.set j v) H6 (s5.trans (.of s6)) (Gn.same ?_ s6) ?_ (by rw [List.length_set, hl]) ((hf.mono (by omega)).set v0 v1 j)
        · rw [e5, upd_upd]
          exact G4.upd NG
        · unfold TI
          rw [h6, List.map_set]
      refine ⟨_, rfl, rfl, _, rfl, ite2 (fun e2 => ?_) (fun e2 => ?_)⟩
      · refine ⟨_, rfl, _, rfl, N, _, j, _, rfl, rfl, .inl (.inl u1), atI_nat hj, _, _, rfl, rfl, _, rfl, _, rfl, N, _, j, j, rfl, rfl, u1, ix, ?_⟩
        exact ⟨_, rfl, N, _, rfl, upd_same, fun l H6 s6 h6 => fin _ (by omega) (by omega) _ rfl l H6 s6 h6⟩
      · refine ⟨_, rfl, _, rfl, N, _, j, _, rfl, rfl, .inl (.inl u1), atI_nat hj, _, _, rfl, rfl, _, _, rfl, _, rfl, _, rfl, N, _, j, j, rfl, rfl, u1, ix, ?_⟩
        refine ⟨_, rfl, N, _, rfl, upd_same, fun l H6 s6 h6 => fin _ ?_ ?_ _ rfl l H6 s6 h6⟩
        · split <;> omega
        · split <;> omega
end
end K11

set_option Elab.async false
set_option linter.all false
set_option maxRecDepth 100000
set_option maxHeartbeats 2000000
namespace K11
open PySem PySem.Spec PyProof.Rows L2 CK
/-! ### the mathematics of the law -/
theorem zsum_zero : ∀ (r : List Int) (m : Nat), (zmul r (List.replicate m 0)).sum = 0
  | [], m => by simp [zmul]
  | x :: r, 0 => by simp [zmul]
  | x :: r, m + 1 => by
    rw [List.replicate_succ]
    show (x * 0 :: zmul r (List.replicate m 0)).sum = 0
    rw [List.sum_cons, zsum_zero r m]
    omega
theorem zsum_unit : ∀ (r : List Int) (g : Nat → Int) (k : Nat) (e : Int), (∀ i, g i = if i = k then e else 0) → (zmul r ((List.range r.length).map g)).sum = r.getD k 0 * e
  | [], g, k, e, h => by simp [zmul]
  | x :: r, g, k, e, h => by
    have e1 : (List.range (x :: r).length).map g = g 0 :: (List.range r.length).map (fun i => g (i + 1)) := by
      rw [List.length_cons, List.range_succ_eq_map, List.map_cons, List.map_map]
      rfl
    rw [e1]
    show (x * g 0 :: zmul r ((List.range r.length).map fun i => g (i + 1))).sum = _
    rw [List.sum_cons]
    cases k with
    | zero =>
      have e2 : (List.range r.length).map (fun i => g (i + 1)) = List.replicate r.length 0 := by
        rw [List.eq_replicate_iff]
        refine ⟨by simp, fun b hb => ?_⟩
        obtain ⟨i, _, rfl⟩ := List.mem_map.mp hb
        rw [h (i + 1), if_neg (by omega)]
      rw [e2, zsum_zero, h 0, if_pos rfl]
      simp
    | succ k =>
      rw [zsum_unit r (fun i => g (i + 1)) k e (fun i => by rw [h (i + 1)]; by_cases z : i = k <;> simp [z]), h 0, if_neg (by omega)]
      simp
theorem zle_cons (c d : Int) (r s : List Int) : (zle (c :: r) (d :: s)).all id = (decide (c ≤ d) && (zle r s).all id) := rfl
theorem zle_iff : ∀ (r s : List Int), r.length = s.length → ((zle r s).all id = true ↔ ∀ i, i < r.length → r.getD i 0 ≤ s.getD i 0)
  | [], [], _ => by simp [zle]
  | [], _ :: _, h => by simp at h
  | _ :: _, [], h => by simp at h
  | c :: r, d :: s, h => by
    have ih := zle_iff r s (by simpa using h)
    rw [zle_cons, Bool.and_eq_true, decide_eq_true_eq, ih]
    refine ⟨fun z i hi => ?_, fun z => ⟨by simpa using z 0 (by simp), fun i hi => by simpa using z (i + 1) (by simpa using hi)⟩⟩
    cases i with
    | zero => simpa using z.1
    | succ i => simpa using z.2 i (by simpa using hi)
theorem zmul_mono : ∀ (r s p : List Int), (zle r s).all id = true → r.length = s.length → (∀ x ∈ p, 0 ≤ x) → (zmul r p).sum ≤ (zmul s p).sum
  | [], [], p, _, _, _ => by simp [zmul]
  | [], _ :: _, _, _, h, _ => by simp at h
  | _ :: _, [], _, _, h, _ => by simp at h
  | c :: r, d :: s, [], _, _, _ => by simp [zmul]
  | c :: r, d :: s, x :: p, h, hl, hp => by
    rw [zle_cons, Bool.and_eq_true, decide_eq_true_eq] at h
    have ih := zmul_mono r s p h.2 (by simpa using hl) fun y hy => hp y (List.mem_cons_of_mem _ hy)
    have hx := hp x List.mem_cons_self
    show (c * x :: zmul r p).sum ≤ (d * x :: zmul s p).sum
    rw [List.sum_cons, List.sum_cons]
    have := Int.mul_le_mul_of_nonneg_right h.1 hx
    omega
theorem val_mono {f h p : List Int} (hz : (zle f h).all id = true) (hl : f.length = h.length) (h0 : 0 < f.length) (hp : ∀ x ∈ p, 0 ≤ x) : valL f p ≤ valL h p := by
  cases f with
  | nil => simp at h0
  | cons c r =>
  cases h with
  | nil => simp at hl
  | cons d s =>
  rw [zle_cons, Bool.and_eq_true, decide_eq_true_eq] at hz
  have := zmul_mono r s p hz.2 (by simpa using hl) hp
  have h1 := hz.1
  show c + (zmul r p).sum ≤ d + (zmul s p).sum
  omega
/-- the k-th number of what is put in -/
def colL (r : List Int) (fs : List (List Int)) (k : Nat) : Int := (List.zipWith (fun x g => x * g.getD k 0) r fs).sum
theorem step_getD {b g : List Int} {x : Int} (hl : b.length = g.length) (k : Nat) : (zadd b (timesL x g)).getD k 0 = b.getD k 0 + x * g.getD k 0 := by
  rw [List.getD_eq_getElem?_getD, List.getD_eq_getElem?_getD, List.getD_eq_getElem?_getD, zadd, timesL, List.getElem?_zipWith, List.getElem?_map]
  by_cases hk : k < b.length
  · rw [List.getElem?_eq_getElem hk, List.getElem?_eq_getElem (show k < g.length by omega)]
    rfl
  · rw [List.getElem?_eq_none (by omega), List.getElem?_eq_none (show g.length ≤ k by omega)]
    simp
theorem range_getD (b : List Int) : b = (List.range b.length).map fun k => b.getD k 0 := by
  refine List.ext_getElem? fun i => ?_
  by_cases hi : i < b.length
  · rw [List.getElem?_map, List.getElem?_range hi, List.getElem?_eq_getElem hi]
    simp [List.getD_eq_getElem?_getD, List.getElem?_eq_getElem hi]
  · rw [List.getElem?_eq_none (by omega), List.getElem?_eq_none (by simp; omega)]
theorem fold_col : ∀ (r : List Int) (fs : List (List Int)) (b : List Int) (n : Nat), b.length = n → (∀ g ∈ fs, g.length = n) → r.length = fs.length →
    (r.zip fs).foldl stepL b = (List.range n).map fun k => b.getD k 0 + colL r fs k
  | [], fs, b, n, hb, _, _ => by
    subst hb
    show b = _
    simp only [colL, List.zipWith_nil_left, List.sum_nil, Int.add_zero]
    exact range_getD b
  | x :: r, [], b, n, _, _, h => by simp at h
  | x :: r, g :: fs, b, n, hb, hf, hl => by
    have hg : g.length = n := hf g List.mem_cons_self
    show (r.zip fs).foldl stepL (zadd b (timesL x g)) = _
    rw [fold_col r fs (zadd b (timesL x g)) n (by rw [zadd_len (by rw [times_len]; omega)]; exact hb) (fun z hz => hf z (List.mem_cons_of_mem _ hz)) (by simpa using hl)]
    refine List.map_congr_left fun k _ => ?_
    rw [step_getD (by omega) k]
    show b.getD k 0 + x * g.getD k 0 + colL r fs k = b.getD k 0 + (x * g.getD k 0 + colL r fs k)
    omega
theorem ins_eq (c : Int) (r : List Int) (fs : List (List Int)) (m : Nat) (hf : ∀ g ∈ fs, g.length = m + 1) (hl : r.length = fs.length) :
    insL (c :: r) m fs = (c + colL r fs 0) :: (List.range m).map fun i => colL r fs (i + 1) := by
  show (r.zip fs).foldl stepL (c :: List.replicate m 0) = _
  rw [fold_col r fs _ (m + 1) (by simp) hf hl, List.range_succ_eq_map, List.map_cons, List.map_map]
  congr 1
  refine List.map_congr_left fun k hk => ?_
  have : (c :: List.replicate m 0).getD (k + 1) 0 = 0 := by
    rw [List.getD_eq_getElem?_getD]
    simp [List.getElem?_replicate]
    split <;> rfl
  show (c :: List.replicate m 0).getD (k + 1) 0 + colL r fs (k + 1) = _
  rw [this]
  omega
theorem zmul_add : ∀ (r s p : List Int), r.length = s.length → (zmul (zadd r s) p).sum = (zmul r p).sum + (zmul s p).sum
  | [], [], p, _ => by simp [zmul, zadd]
  | [], _ :: _, _, h => by simp at h
  | _ :: _, [], _, h => by simp at h
  | c :: r, d :: s, [], _ => by simp [zmul, zadd]
  | c :: r, d :: s, x :: p, h => by
    have ih := zmul_add r s p (by simpa using h)
    show ((c + d) * x :: zmul (zadd r s) p).sum = (c * x :: zmul r p).sum + (d * x :: zmul s p).sum
    rw [List.sum_cons, List.sum_cons, List.sum_cons, ih, Int.add_mul]
    omega
theorem zmul_times : ∀ (x : Int) (s p : List Int), (zmul (timesL x s) p).sum = x * (zmul s p).sum
  | x, [], p => by simp [zmul, timesL]
  | x, d :: s, [] => by simp [zmul, timesL]
  | x, d :: s, y :: p => by
    show (x * d * y :: zmul (timesL x s) p).sum = x * (d * y :: zmul s p).sum
    rw [List.sum_cons, List.sum_cons, zmul_times x s p, Int.mul_add, Int.mul_assoc]
theorem val_step (b g p : List Int) (x : Int) (hb : 0 < b.length) (hl : b.length = g.length) : valL (zadd b (timesL x g)) p = valL b p + x * valL g p := by
  cases b with
  | nil => simp at hb
  | cons c r =>
  cases g with
  | nil => simp at hl
  | cons d s =>
  show c + x * d + (zmul (zadd r (timesL x s)) p).sum = c + (zmul r p).sum + x * (d + (zmul s p).sum)
  rw [zmul_add r (timesL x s) p (by rw [times_len]; simpa using hl), zmul_times, Int.mul_add]
  omega
theorem fold_val : ∀ (r : List Int) (fs : List (List Int)) (b p : List Int) (n : Nat), b.length = n → 0 < n → (∀ g ∈ fs, g.length = n) → r.length = fs.length →
    valL ((r.zip fs).foldl stepL b) p = valL b p + (zmul r (fs.map fun g => valL g p)).sum
  | [], fs, b, p, n, _, _, _, _ => by simp [zmul]
  | x :: r, [], b, p, n, _, _, _, h => by simp at h
  | x :: r, g :: fs, b, p, n, hb, hn, hf, hl => by
    have hg : g.length = n := hf g List.mem_cons_self
    show valL ((r.zip fs).foldl stepL (zadd b (timesL x g))) p = valL b p + (x * valL g p :: zmul r (fs.map fun g => valL g p)).sum
    rw [fold_val r fs _ p n (by rw [zadd_len (by rw [times_len]; omega)]; exact hb) hn (fun z hz => hf z (List.mem_cons_of_mem _ hz)) (by simpa using hl), val_step b g p x (by omega) (by omega), List.sum_cons]
    omega
theorem val_ins (c : Int) (r : List Int) (fs : List (List Int)) (m : Nat) (p : List Int) (hf : ∀ g ∈ fs, g.length = m + 1) (hl : r.length = fs.length) :
    valL (insL (c :: r) m fs) p = valL (c :: r) (fs.map fun g => valL g p) := by
  show valL ((r.zip fs).foldl stepL (c :: List.replicate m 0)) p = c + (zmul r (fs.map fun g => valL g p)).sum
  rw [fold_val r fs _ p (m + 1) (by simp) (by omega) hf hl]
  congr 1
  show c + (zmul (List.replicate m 0) p).sum = c
  rw [show (zmul (List.replicate m 0) p).sum = 0 by
    have := zmul_times 0 (List.replicate m 0) p
    rw [show timesL 0 (List.replicate m 0) = List.replicate m 0 by unfold timesL; rw [List.map_replicate]; rfl] at this
    omega]
  omega
/-! bounds -/
theorem sum_bound : ∀ (xs : List Int) (B : Int) (n : Nat), xs.length ≤ n → 0 ≤ B → (∀ x ∈ xs, 0 ≤ x ∧ x ≤ B) → 0 ≤ xs.sum ∧ xs.sum ≤ B * n
  | [], B, n, _, hB, _ => ⟨by simp, by rw [List.sum_nil]; exact Int.mul_nonneg hB (by omega)⟩
  | x :: xs, B, 0, h, _, _ => by simp at h
  | x :: xs, B, n + 1, h, hB, hx => by
    have ih := sum_bound xs B n (by simpa using h) hB fun y hy => hx y (List.mem_cons_of_mem _ hy)
    have h1 := hx x List.mem_cons_self
    rw [List.sum_cons]
    have : B * ((n + 1 : Nat) : Int) = B * n + B := by rw [Int.natCast_add, Int.mul_add]; simp
    omega
theorem zw_mem {α β γ : Type} {f : α → β → γ} : ∀ {xs : List α} {ys : List β} {z : γ}, z ∈ List.zipWith f xs ys → ∃ x y, x ∈ xs ∧ y ∈ ys ∧ z = f x y
  | [], _, _, h => by simp at h
  | _ :: _, [], _, h => by simp at h
  | x :: xs, y :: ys, z, h => by
    rw [List.zipWith_cons_cons] at h
    rcases List.mem_cons.mp h with e | e
    · exact ⟨x, y, List.mem_cons_self, List.mem_cons_self, e⟩
    · obtain ⟨a, b, h1, h2, h3⟩ := zw_mem e
      exact ⟨a, b, List.mem_cons_of_mem _ h1, List.mem_cons_of_mem _ h2, h3⟩
theorem mul_bound {x y B C : Int} (hx : 0 ≤ x ∧ x ≤ B) (hy : 0 ≤ y ∧ y ≤ C) : 0 ≤ x * y ∧ x * y ≤ B * C :=
  ⟨Int.mul_nonneg hx.1 hy.1, Int.mul_le_mul hx.2 hy.2 hy.1 (Int.le_trans hx.1 hx.2)⟩
theorem val_bound {f p : List Int} {B C : Int} (hf : In0 B f) (hp : In0 C p) (hl : f.length ≤ 4) (h0 : 0 < f.length) (hB : 0 ≤ B) (hC : 0 ≤ C) : 0 ≤ valL f p ∧ valL f p ≤ B + B * C * 3 := by
  cases f with
  | nil => simp at h0
  | cons c r =>
  have h1 := hf c List.mem_cons_self
  have h2 := sum_bound (zmul r p) (B * C) 3 (by unfold zmul; rw [List.length_zipWith]; simp at hl; omega) (Int.mul_nonneg hB hC) fun z hz => by
    obtain ⟨x, y, hx, hy, rfl⟩ := zw_mem hz
    exact mul_bound (hf x (List.mem_cons_of_mem _ hx)) (hp y hy)
  show 0 ≤ c + (zmul r p).sum ∧ c + (zmul r p).sum ≤ B + B * C * 3
  exact ⟨by omega, by have := h2.2; simp at this; omega⟩
theorem getD_bound {B : Int} {g : List Int} (hg : In0 B g) (hB : 0 ≤ B) (k : Nat) : 0 ≤ g.getD k 0 ∧ g.getD k 0 ≤ B := by
  rw [List.getD_eq_getElem?_getD]
  cases h : g[k]? with
  | none => exact ⟨Int.le_refl 0, hB⟩
  | some z => exact hg z (List.mem_of_getElem? h)
theorem col_bound {r : List Int} {fs : List (List Int)} {B C : Int} (hr : In0 B r) (hf : ∀ g ∈ fs, In0 C g) (hl : r.length ≤ 3) (hB : 0 ≤ B) (hC : 0 ≤ C) (k : Nat) : 0 ≤ colL r fs k ∧ colL r fs k ≤ B * C * 3 := by
  have h2 := sum_bound (List.zipWith (fun x g => x * g.getD k 0) r fs) (B * C) 3 (by rw [List.length_zipWith]; omega) (Int.mul_nonneg hB hC) fun z hz => by
    obtain ⟨x, g, hx, hg, rfl⟩ := zw_mem hz
    exact mul_bound (hr x hx) (getD_bound (hf g hg) hC k)
  exact ⟨h2.1, by have := h2.2; simp at this; exact this⟩
theorem In0.nn {B : Int} {ns : List Int} (h : In0 B ns) : Nn ns := fun x hx => (h x hx).1
theorem In0.bd {B : Int} {ns : List Int} (h : In0 B ns) (hB : B < 2 ^ 1000) : Bd ns := fun x hx => ab (h x hx).1 (Int.lt_of_le_of_lt (h x hx).2 hB)
end K11

set_option Elab.async false
set_option linter.all false
set_option maxRecDepth 100000
set_option maxHeartbeats 4000000
namespace K11
open PySem PySem.Spec PyProof.Rows L2 CK
section
variable {P : Program} {w : World} {K : PySem.W.Frag} {mg : Str → Option Value} {base : Heap}
/-- what is shown: nothing, where one form is below the other; else a point at which it has the greater value -/
def Sh (f h : List Int) (m : Nat) (B : Int) (H : Hp) (v : V) : Prop :=
  (v = .non ∧ (zle f h).all id = true) ∨ ∃ p ns, v = .ref p ∧ LI H p ns ∧ ns.length = m ∧ In0 (B + 1) ns ∧ (zle f h).all id = false ∧ valL h ns < valL f ns
theorem Sh.same {f h : List Int} {m : Nat} {B : Int} {H H' : Hp} {v : V} (x : Sh f h m B H v) (s : Same H H') : Sh f h m B H' v := by
  rcases x with x | ⟨p, ns, e, L, r⟩
  · exact .inl x
  · exact .inr ⟨p, ns, e, L.same s, r⟩
def sp_above : Sp := fun vs H Q _ => ∃ (a b : Addr) (f h : List Int) (m : Nat) (B : Int), vs = [.ref a, .ref b] ∧ TI H a f ∧ TI H b h ∧ f.length = m + 1 ∧ h.length = m + 1 ∧ m ≤ 3 ∧ In0 B f ∧ In0 B h ∧ 0 ≤ B ∧ B < 2 ^ 300 ∧
  ∀ v H', Same H H' → Sh f h m B H' v → Q v H'
theorem get_at {ns : List Int} {i : Nat} (h : i < ns.length) : (ns.map V.int)[i]? = some (.int (ns.getD i 0)) := by
  rw [List.getElem?_map, List.getElem?_eq_getElem h, List.getD_eq_getElem?_getD, List.getElem?_eq_getElem h]
  rfl
theorem at_int {ns : List Int} {z : Int} (i : Nat) (e : z = i) (h : i < ns.length) : atI (ns.map V.int) z = some (.int (ns.getD i 0)) := by
  rw [e]
  exact atI_nat (get_at h)
theorem rep_map (m : Nat) : (List.replicate m [V.int 0]).flatten = (List.replicate m (0 : Int)).map V.int := by
  rw [flat_rep, List.map_replicate]
theorem c_law_point_above (T : Txt K mg) : C8.Cal P w K mg base 1 "_law_point_above" sp_above [] := by
  refine calF T.d_law_point_above sc_law_point_above (fun vs H Q E h => ?_) (fun f cdv A outer s H vs Q E hr h => ?_)
  · obtain ⟨_, _, _, _, _, _, rfl, _⟩ := h; rfl
  · obtain ⟨a, b, f, h, m, B, rfl, ha, hb, lf, lh, hm, bf, bh, B0, B1, q⟩ := h
    have qn : ∀ H', Same H H' → (zle f h).all id = true → Q .non H' := fun H' s z => q _ H' s (.inl ⟨rfl, z⟩)
    have qs : ∀ p ns H', Same H H' → LI H' p ns → ns.length = m → In0 (B + 1) ns → (zle f h).all id = false → valL h ns < valL f ns → Q (.ref p) H' :=
      fun p ns H' s L l i z v => q _ H' s (.inr ⟨p, ns, rfl, L, l, i, z, v⟩)
    refine ⟨_, (pss_cons (ps_if (pt_cmpR op_gt (pe_ix ix_tup (pv 0) pe_int (fun _ _ => rfl)) (pe_ix ix_tup (pv 1) pe_int (fun _ _ => rfl)) (nomark _))
    (pss_one (ps_ret (pe_op op_rep (pe_lst (pa_cons pe_int pa_nil)) (pe_op op_sub (pe_callB call_len_seq (by rfl) T.m_len (by decide +kernel) (pa_cons (pv 0) pa_nil)) pe_int))))
    pss_nil)
    (pss_cons (ps_for PassesOwn.never rfl (pi_range2 (by rfl) T.m_range (pa_cons pe_int (pa_cons (pe_callB call_len_seq (by rfl) T.m_len (by decide +kernel) (pa_cons (pv 0) pa_nil)) pa_nil))) (pg_name (i := 2) sc_law_point_above.nd rfl (Or.inr rfl))
    (pss_one (ps_if (pt_cmpR op_gt (pe_ix ix_tup (pv 0) (pv 2) (fun _ _ => rfl)) (pe_ix ix_tup (pv 1) (pv 2) (fun _ _ => rfl)) (nomark _))
    (pss_one (ps_ret (pe_lc (own := [("_law_place", 3)]) (by rfl) sc_law_point_above.nd (pi_range2 (by rfl) T.m_range (pa_cons pe_int (pa_cons (pe_callB call_len_seq (by rfl) T.m_len (by decide +kernel) (pa_cons (pv 0) pa_nil)) pa_nil))) (blkOk_by (N := ["_law_one", "_law_other", "_law_at", "_law_place"]) (sc := C8.fnScope (topS 45)) (own := [("_law_place", 3)]) (by decide +kernel)) (fun _ _ _ _ _ => (pg_name (i := 3) sc_law_point_above.nd rfl (Or.inl rfl))) (fun _ _ _ _ _ => pts_nil) (fun _ _ _ _ _ => (pe_op op_mulW (pe_op op_add (pe_ix ix_tupH (pv 1) pe_int (fun _ _ => rfl)) pe_int) (pe_callTy call_int1 (by rfl) T.m_int (by decide +kernel) (pa_cons (pe_cmpR op_eq (pv 3) (pv 2) (nomark _)) pa_nil)))))))
    pss_nil)))
    (pss_one (ps_ret pe_non)))), ?_⟩
    obtain ⟨c, r, rfl⟩ : ∃ c r, f = c :: r := by cases f with | nil => simp at lf | cons c r => exact ⟨c, r, rfl⟩
    obtain ⟨d, u, rfl⟩ : ∃ d u, h = d :: u := by cases h with | nil => simp at lh | cons c r => exact ⟨c, r, rfl⟩
    have lr : r.length = m := by simpa using lf
    have lu : u.length = m := by simpa using lh
    have cb := bf c List.mem_cons_self
    have db := bh d List.mem_cons_self
    have ll : (((c :: r).map V.int).length : Int) = (m : Int) + 1 := by rw [List.length_map, lf]; simp
    refine ⟨_, rfl, a, _, 0, .int c, rfl, rfl, .inl (.inl ha), atI_nat (j := 0) rfl, _, rfl, b, _, 0, .int d, rfl, rfl, .inl (.inl hb), atI_nat (j := 0) rfl, c, d, rfl, rfl, _, rfl, ite2 (fun e => ?_) (fun e => ?_)⟩
    · -- the constants tell
      have e' : d < c := of_decide_eq_true e
      refine ⟨by show 1 ≤ sizeLine; decide, fun L nL => ⟨_, rfl, a, _, rfl, .inr (.inl (.inl (sameNew nL _ _ ha))), _, 1, rfl, rfl, L, _, _, rfl, rfl, upd_same, by rw [ll]; omega, by rw [ll]; omega, ?_, fun p np => ?_⟩⟩
      · rw [ll, show ((m : Int) + 1 - 1).toNat = m by omega]
        have : (1 : Nat) * m ≤ sizeLine := by rw [sizeLine_eq]; omega
        exact this
      · refine qs p (List.replicate m 0) _ ((sameNew nL).trans (sameNew np)) ?_ (by simp) (fun x hx => ?_) ?_ ?_
        · unfold LI
          rw [upd_same, ll, show ((m : Int) + 1 - 1).toNat = m by omega, rep_map]
        · rw [(List.mem_replicate.mp hx).2]
          exact ⟨Int.le_refl 0, by omega⟩
        · rw [zle_cons, decide_eq_false (by omega), Bool.false_and]
        · show d + (zmul u (List.replicate m 0)).sum < c + (zmul r (List.replicate m 0)).sum
          rw [zsum_zero, zsum_zero]
          omega
    · have e' : c ≤ d := by
        have : ¬ d < c := fun z => e (decide_eq_true z)
        omega
      refine ⟨_, rfl, a, _, rfl, .inr (.inl (.inl ha)), 1, _, rfl, ⟨by decide, by decide, by rw [ll]; omega, by rw [ll]; omega⟩, ?_⟩
      have en : (((((c :: r).map V.int).length : Nat) : Int) - 1).toNat = m := by rw [ll]; omega
      rw [en]
      refine for_it (walk_range (lo := 1) (n := m)) (fun i σ H3 => H3 = H ∧ (∃ y2 y3, σ = [some (.ref a), some (.ref b), y2, y3]) ∧ ∀ k, k < i → r.getD k 0 ≤ u.getD k 0)
        ⟨rfl, ⟨none, none, rfl⟩, fun k hk => absurd hk (by omega)⟩ (fun _ _ _ _ _ => True.intro) (fun i v σ H3 H4 hi p yy => ?_) fun σ H3 p => ?_
      · obtain ⟨rfl, ⟨y2, y3, rfl⟩, hk⟩ := p
        obtain ⟨rfl, rfl⟩ := yy
        refine ⟨_, rfl, _, rfl, a, _, _, _, rfl, rfl, .inl (.inl ha), at_int (i + 1) (by omega) (by rw [lf]; omega), _, rfl, _, rfl, b, _, _, _, rfl, rfl, .inl (.inl hb), at_int (i + 1) (by omega) (by rw [lh]; omega), _, _, rfl, rfl, _, rfl, ite2 (fun e2 => ?_) (fun e2 => ?_)⟩
        · have lt : u.getD i 0 < r.getD i 0 := by simpa using of_decide_eq_true e2
          refine ⟨_, rfl, a, _, rfl, .inr (.inl (.inl ha)), 1, _, rfl, ⟨by decide, by decide, by rw [ll]; omega, by rw [ll]; omega⟩, ?_⟩
          rw [en]
          refine fun D hD => lcR_map (lo := 1) (n := m) (fun k => .int ((d + 1) * if k = i then 1 else 0)) (small5 (by omega)) (fun k H5 R hk5 s5 q' => ?_) hD fun H5 s5 hL => ?_
          · refine ⟨rfl, _, rfl, b, _, 0, .int d, rfl, rfl, s5 _ _ hb, atI_nat (j := 0) rfl, d, 1, rfl, rfl, _, rfl, _, rfl, rfl, .inr ⟨_, rfl, d + 1, _, rfl, rfl, ?_, ?_⟩⟩
            · exact wide_mul (a := 301) (b := 2) (by omega) (by split <;> decide) (by decide) (by decide) (by decide)
            · have e3 : (if decide (V.int (1 + (k : Int)) = V.int (1 + (i : Int))) = true then (1 : Int) else 0) = if k = i then 1 else 0 := by
                by_cases z : k = i
                · subst z
                  rw [if_pos (decide_eq_true rfl), if_pos rfl]
                · rw [if_neg (fun y => z (by have := V.int.inj (of_decide_eq_true y); omega)), if_neg z]
              rw [e3]
              exact q' _ (Same.refl _)
          · have hL' : LI H5 D ((List.range m).map fun k => (d + 1) * if k = i then 1 else 0) := by
              unfold LI
              rw [hL, List.map_map]
              rfl
            refine qs D _ H5 s5 hL' (by simp) (fun x hx => ?_) ?_ ?_
            · obtain ⟨k, _, rfl⟩ := List.mem_map.mp hx
              split
              · rw [Int.mul_one]
                omega
              · rw [Int.mul_zero]
                omega
            · cases z : (zle (c :: r) (d :: u)).all id with
              | false => rfl
              | true =>
                have := (zle_iff (c :: r) (d :: u) (by omega)).mp z (i + 1) (by rw [lf]; omega)
                simp at this
                simp [List.getD_eq_getElem?_getD] at lt
                omega
            · have g : ∀ k, (d + 1) * (if k = i then (1 : Int) else 0) = if k = i then d + 1 else 0 := fun k => by split <;> simp
              have h1 := zsum_unit r (fun k => (d + 1) * if k = i then 1 else 0) i (d + 1) g
              have h2 := zsum_unit u (fun k => (d + 1) * if k = i then 1 else 0) i (d + 1) g
              rw [lr] at h1
              rw [lu] at h2
              show d + (zmul u ((List.range m).map fun k => (d + 1) * if k = i then 1 else 0)).sum < c + (zmul r ((List.range m).map fun k => (d + 1) * if k = i then 1 else 0)).sum
              rw [h1, h2]
              have h3 : (u.getD i 0 + 1) * (d + 1) ≤ r.getD i 0 * (d + 1) := Int.mul_le_mul_of_nonneg_right (by omega) (by omega)
              rw [Int.add_mul] at h3
              omega
        · have le : r.getD i 0 ≤ u.getD i 0 := by
            have : ¬ u.getD i 0 < r.getD i 0 := fun z => e2 (by simpa using z)
            omega
          refine ⟨rfl, ⟨_, _, rfl⟩, fun k hk' => ?_⟩
          by_cases z : k = i
          · rw [z]
            exact le
          · exact hk k (by omega)
      · obtain ⟨rfl, ⟨y2, y3, rfl⟩, hk⟩ := p
        refine qn _ (Same.refl _) ?_
        rw [zle_cons, decide_eq_true e', Bool.true_and, zle_iff r u (by omega)]
        exact fun i hi => hk i (by omega)
end
end K11

set_option Elab.async false
set_option linter.all false
set_option maxRecDepth 100000
set_option maxHeartbeats 8000000
namespace K11
open PySem PySem.Spec PyProof.Rows L2 CK
theorem yes_if {σ : L2.St} {H : Hp} {A B : Hp → Prop} (h : A H) : tYes σ H fun b H3 => if b = true then A H3 else B H3 := by
  show (if true = true then A H else B H)
  rw [if_pos rfl]
  exact h
/-- a test that is told to be false, then what follows -/
theorem if_no {c : TT} {t u : TS} {D : Ends} {σ : L2.St} {H : Hp} (h : ∀ R : Bool → Hp → Prop, (∀ H', Same H H' → R false H') → c σ H R) (r : ∀ H', Same H H' → u D σ H') : tSeq (tIfS c t tNext) u D σ H :=
  h _ fun H' s => iteF (r H' s)
theorem FL.snoc {H H' : Hp} {D g p : Addr} {ps : List Addr} {fs : List (List Int)} {f : List Int} {n : Nat} (F : FL H D ps fs) (hD : D ≠ g) (G : Gn n H g) (s : SameX g H H') (t : TI H' p f) : FL (upd H' D (.lst (ps.map V.ref ++ [.ref p]))) D (ps ++ [p]) (fs ++ [f]) := by
  have d : H' D = some (.lst (ps.map V.ref)) := s D _ hD F.at_
  have keep : ∀ q e, TI H' q e → TI (upd H' D (.lst (ps.map V.ref ++ [.ref p]))) q e := fun q e t' => by
    unfold TI
    rw [upd_ne (fun z => by rw [z] at t'; have := t'.symm.trans d; cases this)]
    exact t'
  refine ⟨by rw [upd_same, List.map_append]; rfl, by rw [List.length_append, List.length_append, F.len]; rfl, fun i q e hq he => ?_⟩
  by_cases hi : i < ps.length
  · rw [List.getElem?_append_left hi] at hq
    rw [List.getElem?_append_left (by rw [← F.len]; exact hi)] at he
    exact keep q e (s.tup G (F.get i q e hq he))
  · rw [List.getElem?_append_right (by omega)] at hq
    rw [List.getElem?_append_right (by rw [← F.len]; omega), ← F.len] at he
    by_cases z : i - ps.length = 0
    · rw [z] at hq he
      cases Option.some.inj hq
      cases Option.some.inj he
      exact keep p f t
    · rw [List.getElem?_eq_none (by simp; omega)] at hq
      cases hq
theorem FL.sameX {H H' : Hp} {g a : Addr} {ps : List Addr} {fs : List (List Int)} {n : Nat} (F : FL H a ps fs) (ha : a ≠ g) (G : Gn n H g) (s : SameX g H H') : FL H' a ps fs :=
  ⟨s _ _ ha F.at_, F.len, fun i p f h1 h2 => s.tup G (F.get i p f h1 h2)⟩
/-- what is drawn -/
structure Wd (g pO pR pP pF : Addr) (one other pt : List Int) (ps : List Addr) (fs : List (List Int)) (H : Hp) : Prop where
  o : TI H pO one
  r : TI H pR other
  p : LI H pP pt
  f : FL H pF ps fs
theorem Wd.same {g pO pR pP pF : Addr} {one other pt : List Int} {ps : List Addr} {fs : List (List Int)} {H H' : Hp} (W : Wd g pO pR pP pF one other pt ps fs H) (s : Same H H') : Wd g pO pR pP pF one other pt ps fs H' :=
  ⟨W.o.same s, W.r.same s, W.p.same s, W.f.same s⟩
theorem Wd.sameX {g pO pR pP pF : Addr} {one other pt : List Int} {ps : List Addr} {fs : List (List Int)} {H H' : Hp} {n : Nat} (W : Wd g pO pR pP pF one other pt ps fs H) (np : pP ≠ g) (nf : pF ≠ g) (G : Gn n H g) (s : SameX g H H') : Wd g pO pR pP pF one other pt ps fs H' :=
  ⟨s.tup G W.o, s.tup G W.r, s _ _ np W.p, W.f.sameX nf G s⟩
end K11

set_option Elab.async false
set_option linter.all false
set_option maxRecDepth 100000
set_option maxHeartbeats 8000000
namespace K11
open PySem PySem.Spec PyProof.Rows L2 CK
/-- known, and not what stands at S -/
def KnX (S : Addr) (H : Hp) (v : V) : Prop := Kn H v ∧ v ≠ .ref S
theorem KnX.sameX {S : Addr} {H H' : Hp} {v : V} (k : KnX S H v) (s : SameX S H H') : KnX S H' v := by
  refine ⟨?_, k.2⟩
  cases k.1 with
  | non => exact .non
  | bl b => exact .bl b
  | int i => exact .int i
  | str x => exact .str x
  | lst e => exact .lst (s _ _ (fun z => k.2 (by rw [z])) e)
  | tup e => exact .tup (s _ _ (fun z => k.2 (by rw [z])) e)
/-- a value that is no form for m unknowns -/
structure Bad (S : Addr) (m : Int) (H : Hp) (v : V) : Prop where
  kn : KnX S H v
  tp : ∀ a xs, v = .ref a → H a = some (.tup xs) → xs.length < sizeLine ∧ ∀ x ∈ xs, KnX S H x
  no : formB H m v = false
theorem bad_tup {S : Addr} {m : Int} {H : Hp} {a : Addr} {xs : List V} (h : H a = some (.tup xs)) (ha : a ≠ S) (hl : xs.length < sizeLine) (hk : ∀ x ∈ xs, KnX S H x) (hn : (decide ((xs.length : Int) = m + 1) && xs.all isC) = false) : Bad S m H (.ref a) :=
  ⟨⟨.tup h, fun z => ha (V.ref.inj z)⟩, fun b ys e hb => by
    cases e
    have := hb.symm.trans h
    cases this
    exact ⟨hl, hk⟩, by rw [formB_tup h]; exact hn⟩
theorem bad_lst {S : Addr} {m : Int} {H : Hp} {a : Addr} {xs : List V} (h : H a = some (.lst xs)) (ha : a ≠ S) : Bad S m H (.ref a) := by
  refine ⟨⟨.lst h, fun z => ha (V.ref.inj z)⟩, fun b ys e hb => ?_, ?_⟩
  · cases e
    have := hb.symm.trans h
    cases this
  · simp only [formB, h]
theorem bad_flat {S : Addr} {m : Int} {H : Hp} {v : V} (k : Kn H v) (h : ∀ a, v ≠ .ref a) : Bad S m H v := by
  refine ⟨⟨k, h S⟩, fun a xs e _ => absurd e (h a), ?_⟩
  cases v with
  | ref a => exact absurd rfl (h a)
  | _ => rfl
theorem Bad.sameX {S : Addr} {m : Int} {H H' : Hp} {v : V} (k : Bad S m H v) (s : SameX S H H') : Bad S m H' v := by
  cases k.kn.1 with
  | non => exact bad_flat .non fun a z => nomatch z
  | bl b => exact bad_flat (.bl b) fun a z => nomatch z
  | int i => exact bad_flat (.int i) fun a z => nomatch z
  | str x => exact bad_flat (.str x) fun a z => nomatch z
  | lst e => exact bad_lst (s _ _ (fun z => k.kn.2 (by rw [z])) e) fun z => k.kn.2 (by rw [z])
  | @tup a xs e =>
    have na : a ≠ S := fun z => k.kn.2 (by rw [z])
    have t := k.tp a xs rfl e
    have n := k.no
    rw [formB_tup e] at n
    exact bad_tup (s _ _ na e) na t.1 (fun x hx => (t.2 x hx).sameX s) n
section
variable {P : Program} {w : World} {K : PySem.W.Frag} {mg : Str → Option Value} {base : Heap}
theorem right_C (T : Txt K mg) (f : Addr) (cdv : Value) (A : Around) (outer : List Env) (s : Shared) (H0 : Hp) (E : XK) (hr : Room 7 (A.deeper (envOfC "_law_right" (C8.fnScope (topS 48)) s.heap.objs.size f cdv))) :
    ∃ u, PSs (cxOf C8.CX0 P w K mg base ["_law_generator_here", "_law_many", "_law_inner", "_law_most", "_law_one", "_law_other", "_law_point_here", "_law_number", "_law_forms", "_law_turn", "_law_low", "_law_high", "_law_item", "_law_shown", "_law_given", "_law_place", "_law_told", "_law_due", "_law_step", "_law_form_here", "_law_at", "_law_spoilt", "_law_wrong"] "_law_right" (C8.fnScope (topS 48)) f cdv A outer s H0 E).nox ((C8.fnBody (topS 48)).drop 19) u ∧
      ∀ (D : Ends) (σ : L2.St) (H : Hp) (g pO : Addr) (m : Nat) (num : Int) (one : List Int) (y2 y3 y5 y6 y8 y9 y10 y11 y12 y13 y14 y15 y16 y17 y18 y19 : Option V),
        σ = [some (.ref g), some (.int m), y2, y3, some (.ref pO), y5, y6, some (.int num), y8, y9, y10, y11, y12, y13, y14, y15, y16, y17, y18, y19, none, none, none] → TI H pO one → Gn 10 H g → one.length = m + 1 → m ≤ 3 → Nn one → Bd one → 0 ≤ num →
        (∀ H', SameX g H H' → D.rt (.bl true) H') → u D σ H := by
  refine ⟨_, (pss_cons (ps_par (i := 20) (j := 21) (by rfl) sc_law_right.nd rfl rfl (by decide) rfl rfl (pa_cons (C8.pe_c (c_law_random T) hr (by decide) (by rfl) (pa_cons (pv 0) (pa_cons (pe_op op_add (pv 1) pe_int) pa_nil))) (pa_cons (pe_lst (pa_cons (pe_callTy call_list_of (by rfl) T.m_list (by decide +kernel) (pa_cons (pv 4) pa_nil)) (pa_cons (pe_op op_catS (pv 4) (pe_tup (pa_cons pe_int pa_nil))) (pa_cons (pe_slice sl_drop (pv 4) (po_some pe_int) po_none) (pa_cons (pe_callTy (call_str_tup hr) (by rfl) T.m_str (by decide +kernel) (pa_cons (pv 4) pa_nil)) (pa_cons pe_non pa_nil)))))) pa_nil)) (by rfl))
    (pss_cons (ps_for PassesOwn.never rfl (pi_list (pe_lst (pa_cons pe_bl (pa_cons (pe_op op_sub (pe_op op_sub pe_int pe_int) (pv 7)) (pa_cons pe_str (pa_cons pe_non (pa_cons (pe_tup (pa_cons pe_int pa_nil)) pa_nil))))))) (pg_name (i := 22) sc_law_right.nd rfl (Or.inl rfl))
    (pss_one (ps_expr (pe_bm PySem.F.plainAttrs_list PySem.F.slot_list_append PySem.F.type_list_append mt_append (pv 21) (pa_cons (pe_op op_catS (pe_op op_catS (pe_slice sl_take (pv 4) po_none (po_some (pv 20))) (pe_tup (pa_cons (pv 22) pa_nil))) (pe_slice sl_drop (pv 4) (po_some (pe_op op_add (pv 20) pe_int)) po_none)) pa_nil)))))
    (pss_one (ps_ret (pe_cmpR (op_eqD hr.units) (pe_lc (own := [("_law_item", 12)]) (by rfl) sc_law_right.nd (pi_list (pv 21)) (blkOk_by (N := ["_law_generator_here", "_law_many", "_law_inner", "_law_most", "_law_one", "_law_other", "_law_point_here", "_law_number", "_law_forms", "_law_turn", "_law_low", "_law_high", "_law_item", "_law_shown", "_law_given", "_law_place", "_law_told", "_law_due", "_law_step", "_law_form_here", "_law_at", "_law_spoilt", "_law_wrong"]) (sc := C8.fnScope (topS 48)) (own := [("_law_item", 12)]) (by decide +kernel)) (fun _ _ _ _ _ => (pg_name (i := 12) sc_law_right.nd rfl (Or.inl rfl))) (fun _ _ _ _ _ => (pts_one (pt_cmpR op_notBl (C8.pe_c (c_is_form T) hr (by decide) (by rfl) (pa_cons (pv 1) (pa_cons (pv 12) pa_nil))) pe_bl (nomark _)))) (fun _ _ _ _ _ => (pv 12))) (pe_lst pa_nil) (nomark _)))))), ?_⟩
  intro D σ H g pO m num one y2 y3 y5 y6 y8 y9 y10 y11 y12 y13 y14 y15 y16 y17 y18 y19 eσ tO G lO m3 nn bd n0 q
  subst eσ
  -- at, spoilt
  refine ⟨_, rfl, _, rfl, _, _, rfl, rfl, g, (m : Int) + 1, 9, rfl, G, by omega, Int.lt_of_le_of_lt (show (m : Int) + 1 ≤ 10 by omega) (by decide), fun at_ H1 s1 G1 a0 a1 => ?_⟩
  have tO1 := s1.tup G tO
  obtain ⟨j, rfl⟩ : ∃ j : Nat, at_ = j := ⟨at_.toNat, by omega⟩
  refine ⟨_, rfl, pO, _, rfl, .inr (.inl (.inl tO1)), fun l1 n1 => ?_⟩
  refine ⟨_, rfl, by show 1 ≤ sizeLine; decide, fun t nt => ⟨pO, t, _, _, rfl, rfl, sameNew nt _ _ (sameNew n1 _ _ tO1), upd_same, by simp [lO]; omega, fun p2 H2 s2 h2 => ?_⟩⟩
  have b2 : Same H1 H2 := ((sameNew n1).trans (sameNew nt)).trans s2
  have hl1 : H2 l1 = some (.lst (one.map V.int)) := s2 _ _ (sameNew nt _ _ upd_same)
  refine ⟨_, rfl, 1, rfl, pO, _, 1, rfl, rfl, rfl, b2 _ _ tO1, fun p3 H3 s3 h3 => ?_⟩
  refine ⟨_, rfl, pO, one, rfl, s3 _ _ (b2 _ _ tO1), by omega, fun n hn => ?_, fun ms => ?_⟩
  · have h9 := bd n hn
    by_cases z : n.natAbs = 0
    · rw [z]
      decide
    · exact Nat.lt_of_lt_of_le ((Nat.log2_lt z).mpr h9) (by decide)
  refine ⟨by show 5 ≤ sizeLine; decide, fun S nS => ⟨_, _, rfl, ?_⟩⟩
  have b3 : Same H1 H3 := b2.trans s3
  have G3 := G1.same b3
  have Sg : S ≠ g := G3.ne nS
  have HS : ∀ b o, b ≠ g → H b = some o → b ≠ S := fun b o nb e z => by
    have := b3 _ _ (s1 b o nb e)
    rw [z, nS] at this
    cases this
  have nl : l1 ≠ S := fun z => by
    have := s3 _ _ hl1
    rw [z, nS] at this
    cases this
  have np2 : p2 ≠ S := fun z => by
    have := s3 _ _ h2
    rw [z, nS] at this
    cases this
  have np3 : p3 ≠ S := fun z => by
    rw [z, nS] at h3
    cases h3
  have nO : pO ≠ S := fun z => by
    have := b3 _ _ tO1
    rw [z, nS] at this
    cases this
  have sS : Same H3 (upd H3 S (.lst [.ref l1, .ref p2, .ref p3, .str ms, .non])) := sameNew nS
  have ki : ∀ {H' : Hp}, ∀ x ∈ one.map V.int, KnX S H' x := fun {H'} x hx => by
    obtain ⟨i, _, rfl⟩ := List.mem_map.mp hx
    exact ⟨.int i, fun z => nomatch z⟩
  have bad : ∀ v ∈ [V.ref l1, .ref p2, .ref p3, .str ms, .non], Bad S m (upd H3 S (.lst [.ref l1, .ref p2, .ref p3, .str ms, .non])) v := fun v hv => by
    have c : v = .ref l1 ∨ v = .ref p2 ∨ v = .ref p3 ∨ v = .str ms ∨ v = .non := by simpa using hv
    rcases c with rfl | rfl | rfl | rfl | rfl
    · exact bad_lst (sS _ _ (s3 _ _ hl1)) nl
    · refine bad_tup (sS _ _ (s3 _ _ h2)) np2 (by simp [lO]; exact small5 (by omega)) (fun x hx => ?_) ?_
      · rcases List.mem_append.mp hx with z | z
        · exact ki x z
        · rw [List.mem_singleton.mp z]
          exact ⟨.int 0, fun z => nomatch z⟩
      · rw [decide_eq_false (by simp [lO]; omega), Bool.false_and]
    · refine bad_tup (sS _ _ h3) np3 (by simp [lO]; exact small5 (by omega)) (fun x hx => ki x (List.mem_of_mem_drop hx)) ?_
      rw [decide_eq_false (by simp [lO]; omega), Bool.false_and]
    · exact bad_flat (.str ms) fun a z => nomatch z
    · exact bad_flat .non fun a z => nomatch z
  have tO4 := sS _ _ (b3 _ _ tO1)
  have S4 : SameX g H (upd H3 S (.lst [.ref l1, .ref p2, .ref p3, .str ms, .non])) := s1.trans (.of (b3.trans sS))
  have hS : (upd H3 S (.lst [.ref l1, .ref p2, .ref p3, .str ms, .non])) S = some (.lst [.ref l1, .ref p2, .ref p3, .str ms, .non]) := upd_same
  generalize hacc : [V.ref l1, .ref p2, .ref p3, .str ms, .non] = acc0 at bad tO4 S4 hS sS ⊢
  have la0 : acc0.length = 5 := by rw [← hacc]; rfl
  generalize upd H3 S (.lst acc0) = H4 at bad tO4 S4 hS sS ⊢
  clear hacc nl np2 np3 h2 h3 hl1 b2 b3 s3 s2 n1 nt nS sS G3 G1 s1 tO1
  -- the loop
  try dsimp only
  refine ⟨_, _, rfl, rfl, _, rfl, _, _, rfl, rfl, by show 1 ≤ sizeLine; decide, fun tw nw => ⟨by show 5 ≤ sizeLine; decide, fun pw npw => ⟨pw, rfl, ⟨_, .inl (.inl upd_same)⟩, ?_⟩⟩⟩
  have w4 : (upd H4 tw (.tup [.int 1])) tw = some (.tup [.int 1]) := upd_same
  have nw' : tw ≠ S := fun z => by
    rw [z, hS] at nw
    cases nw
  have s5 : Same H4 (upd H4 tw (.tup [.int 1])) := sameNew nw
  generalize upd H4 tw (.tup [.int 1]) = H5 at w4 s5 npw ⊢
  have npS : pw ≠ S := fun z => by
    rw [z, s5 _ _ hS] at npw
    cases npw
  have s6 : Same H5 (upd H5 pw (.lst [.bl true, .int (0 - 1 - num), .str "1", .non, .ref tw])) := sameNew npw
  have hpw : (upd H5 pw (.lst [.bl true, .int (0 - 1 - num), .str "1", .non, .ref tw])) pw = some (.lst [.bl true, .int (0 - 1 - num), .str "1", .non, .ref tw]) := upd_same
  have vk : ∀ x ∈ [V.bl true, .int (0 - 1 - num), .str "1", .non, .ref tw], isC x = false ∧ KnX S (upd H5 pw (.lst [.bl true, .int (0 - 1 - num), .str "1", .non, .ref tw])) x := fun x hx => by
    have c : x = .bl true ∨ x = .int (0 - 1 - num) ∨ x = .str "1" ∨ x = .non ∨ x = .ref tw := by simpa using hx
    rcases c with rfl | rfl | rfl | rfl | rfl
    · exact ⟨rfl, .bl true, fun z => nomatch z⟩
    · exact ⟨decide_eq_false (by omega), .int _, fun z => nomatch z⟩
    · exact ⟨rfl, .str _, fun z => nomatch z⟩
    · exact ⟨rfl, .non, fun z => nomatch z⟩
    · exact ⟨rfl, .tup (s6 _ _ w4), fun z => nw' (V.ref.inj z)⟩
  generalize hvals : [V.bl true, .int (0 - 1 - num), .str "1", .non, .ref tw] = vals at s6 hpw vk ⊢
  have lv : vals.length = 5 := by rw [← hvals]; rfl
  generalize upd H5 pw (.lst vals) = H6 at s6 hpw vk ⊢
  have b6 : Same H4 H6 := s5.trans s6
  refine for_it (walk_list (K := K) (a := pw) (xs := vals)) (fun i σ H' => (∃ y22, σ = [some (.ref g), some (.int m), y2, y3, some (.ref pO), y5, y6, some (.int num), y8, y9, y10, y11, y12, y13, y14, y15, y16, y17, y18, y19, some (.int j), some (.ref S), y22]) ∧
      SameX S H6 H' ∧ ∃ acc, H' S = some (.lst acc) ∧ acc.length = 5 + i ∧ ∀ v ∈ acc, Bad S m H' v)
    ⟨⟨none, rfl⟩, .refl _ _, acc0, b6 _ _ hS, la0, fun v hv => (bad v hv).sameX (.of b6)⟩ (fun i σ H' _ p => .inl (.inl (p.2.1 _ _ npS hpw))) (fun i x σ H' H'' hi p y => ?_) fun σ H' p => ?_
  · obtain ⟨⟨y22, rfl⟩, sx, acc, hA, lA, bA⟩ := p
    obtain ⟨rfl, hx⟩ := y
    obtain ⟨xc, xk⟩ := vk x (List.mem_of_getElem? hx)
    have tO6 := sx _ _ nO (b6 _ _ tO4)
    refine ⟨_, rfl, .inl ⟨rfl, _, .inl (.inl hA)⟩, ?_⟩
    refine ⟨_, rfl, _, rfl, _, rfl, pO, _, j, rfl, rfl, rfl, tO6, fun q1 Ha sa ha => ?_⟩
    refine ⟨_, rfl, by show 1 ≤ sizeLine; decide, fun t nt => ⟨q1, t, _, _, rfl, rfl, sameNew nt _ _ ha, upd_same, by simp [lO]; omega, fun q2 Hb sb hb => ?_⟩⟩
    have ab' : Same H'' Hb := (sa.trans (sameNew nt)).trans sb
    refine ⟨_, rfl, _, rfl, _, _, rfl, rfl, _, rfl, pO, _, j + 1, rfl, rfl, rfl, ab' _ _ tO6, fun q3 Hc sc hc => ?_⟩
    refine ⟨q2, q3, _, _, rfl, rfl, sc _ _ hb, hc, by simp [lO]; omega, fun q4 Hd sd hd => ?_⟩
    have ad : Same H'' Hd := (ab'.trans sc).trans sd
    have hAd := ad _ _ hA
    have n4 : q4 ≠ S := fun z => by
      rw [z, hAd] at hd
      cases hd
    have ux : SameX S H'' (upd Hd S (.lst (acc ++ [.ref q4]))) := (SameX.of ad).trans sameX_upd
    refine ⟨S, _, _, rfl, rfl, hAd, by rw [lA]; exact small1000 (by omega), ⟨_, rfl⟩, sx.trans ux, _, upd_same, by rw [List.length_append, lA]; rfl, fun v hv => ?_⟩
    rcases List.mem_append.mp hv with z | z
    · exact (bA v z).sameX ux
    · rw [List.mem_singleton.mp z]
      refine bad_tup (by rw [upd_ne n4]; exact hd) n4 (by simp [lO]; exact small5 (by omega)) (fun e he => ?_) ?_
      · rcases List.mem_append.mp he with y | y
        · rcases List.mem_append.mp y with y | y
          · exact ki e (List.mem_of_mem_take y)
          · rw [List.mem_singleton.mp y]
            exact (xk.sameX sx).sameX ux
        · exact ki e (List.mem_of_mem_drop y)
      · rw [List.all_append, List.all_append]
        simp [xc]
  · obtain ⟨⟨y22, rfl⟩, sx, acc, hA, lA, bA⟩ := p
    refine ⟨_, rfl, S, rfl, ⟨_, .inl (.inl hA)⟩, fun L nL => ?_⟩
    have LS : S ≠ L := fun z => by
      rw [← z, hA] at nL
      cases nL
    refine lc_list (xs := acc) (fun i H'' => Same H' H'' ∧ H'' L = some (.lst [])) ⟨sameNew nL, upd_same⟩ (fun i H'' _ p => .inl (.inl (p.1 _ _ hA))) (fun i x H'' hx p => ?_) fun H'' p => ?_
    · obtain ⟨sy, hL⟩ := p
      have b := (bA x (List.mem_of_getElem? hx)).sameX (.of sy)
      refine ⟨rfl, _, rfl, _, rfl, m, x, rfl, by omega, by omega, b.kn.1, fun a xs e h => ⟨(b.tp a xs e h).1, fun z hz => ((b.tp a xs e h).2 z hz).1⟩, fun Ha sa => ⟨_, false, rfl, rfl, _, rfl, ?_⟩⟩
      rw [b.no]
      exact iteF ⟨sy.trans sa, sa _ _ hL⟩
    · obtain ⟨sy, hL⟩ := p
      refine ⟨Nat.zero_le _, fun M nM => ⟨.list [], .list [], .lst (.inl (.inl (sameNew nM _ _ hL))) .nil, .lst (.inl (.inl upd_same)) .nil, rfl, rfl, ?_⟩⟩
      refine q _ fun b o nb e => ?_
      have e4 := S4 b o nb e
      exact sameNew nM _ _ (sy _ _ (sx _ _ (HS b o nb e) (b6 _ _ e4)))
end
end K11

set_option Elab.async false
set_option linter.all false
set_option maxRecDepth 100000
set_option maxHeartbeats 8000000
namespace K11
open PySem PySem.Spec PyProof.Rows L2 CK
theorem dpAll_refs {K : PySem.W.Frag} {H : Hp} : ∀ (ps : List Addr) (fs : List (List Int)), ps.length = fs.length → (∀ (i : Nat) (p : Addr) (e : List Int), ps[i]? = some p → fs[i]? = some e → TI H p e) → DpAll K H (ps.map V.ref) (fs.map dI)
  | [], [], _, _ => .nil
  | [], _ :: _, h, _ => by simp at h
  | _ :: _, [], h, _ => by simp at h
  | p :: ps, e :: fs, h, g => .cons (dp_ints (g 0 p e rfl rfl)) (dpAll_refs ps fs (by simpa using h) fun i q z hq hz => g (i + 1) q z (by simpa using hq) (by simpa using hz))
theorem dp_FL {K : PySem.W.Frag} {H : Hp} {a : Addr} {ps : List Addr} {fs : List (List Int)} (F : FL H a ps fs) : Dp K H (.ref a) (.list (fs.map dI)) := .lst (.inl (.inl F.at_)) (dpAll_refs ps fs F.len F.get)
/-- step * form[at], turn by turn -/
theorem col_list (r : List Int) (fs : List (List Int)) (at_ : Nat) (h : r.length = fs.length) :
    (List.range (r.map V.int).length).map (fun i => V.int (r.getD i 0 * (fs.getD i []).getD at_ 0)) = (List.zipWith (fun x g => x * g.getD at_ 0) r fs).map V.int := by
  rw [List.length_map, List.map_zipWith]
  refine range_map_zip r fs h (fun x g => V.int (x * g.getD at_ 0)) _ fun i x y hx hy => ?_
  rw [List.getD_eq_getElem?_getD, List.getD_eq_getElem?_getD (l := fs), hx, hy]
  rfl
theorem val_list (ps : List Addr) (fs : List (List Int)) (pl : List Int) (h : ps.length = fs.length) :
    (List.range (ps.map V.ref).length).map (fun i => V.int (valL (fs.getD i []) pl)) = (fs.map fun e => valL e pl).map V.int := by
  rw [List.length_map, h, List.map_map]
  refine range_map_get fs (fun e => V.int (valL e pl)) _ fun i x hx => ?_
  rw [List.getD_eq_getElem?_getD, hx]
  rfl
theorem getD_of {α : Type} {l : List α} {i : Nat} {x d : α} (h : l[i]? = some x) : l.getD i d = x := by
  rw [List.getD_eq_getElem?_getD, h]
  rfl
section
variable {P : Program} {w : World} {K : PySem.W.Frag} {mg : Str → Option Value} {base : Heap}
theorem right_B (T : Txt K mg) (f : Addr) (cdv : Value) (A : Around) (outer : List Env) (s : Shared) (H0 : Hp) (E : XK) (hr : Room 7 (A.deeper (envOfC "_law_right" (C8.fnScope (topS 48)) s.heap.objs.size f cdv))) :
    ∃ u, PSs (cxOf C8.CX0 P w K mg base ["_law_generator_here", "_law_many", "_law_inner", "_law_most", "_law_one", "_law_other", "_law_point_here", "_law_number", "_law_forms", "_law_turn", "_law_low", "_law_high", "_law_item", "_law_shown", "_law_given", "_law_place", "_law_told", "_law_due", "_law_step", "_law_form_here", "_law_at", "_law_spoilt", "_law_wrong"] "_law_right" (C8.fnScope (topS 48)) f cdv A outer s H0 E).nox ((C8.fnBody (topS 48)).drop 12) u ∧
      ∀ (D : Ends) (σ : L2.St) (H : Hp) (g pO pR pP pF : Addr) (m k : Nat) (most num : Int) (one other pt : List Int) (ps : List Addr) (fs : List (List Int)) (v : V),
        σ = [some (.ref g), some (.int m), some (.int k), some (.int most), some (.ref pO), some (.ref pR), some (.ref pP), some (.int num), some (.ref pF), none, none, none, none, some v, none, none, none, none, none, none, none, none, none] →
        Wd g pO pR pP pF one other pt ps fs H → Gn 900 H g → pP ≠ g → pF ≠ g → one.length = m + 1 → m ≤ 3 → k ≤ 3 → In0 most one → 0 ≤ most → most ≤ 10 ^ 29 → 0 ≤ num → num ≤ 10 ^ 30 → fs.length = m → (∀ e ∈ fs, e.length = k + 1 ∧ In0 most e) →
        (∀ H', SameX g H H' → D.rt (.bl true) H') → u D σ H := by
  obtain ⟨u19, hu19, hq19⟩ := right_C (P := P) (w := w) (base := base) T f cdv A outer s H0 E hr
  refine ⟨_, (pss_cons (ps_asg (pe_tup (pa_cons (pe_callTy call_list_of (by rfl) T.m_list (by decide +kernel) (pa_cons (pv 8) pa_nil)) (pa_cons (C8.pe_c (c_law_point T) hr (by decide) (by rfl) (pa_cons (pv 0) (pa_cons (pv 2) (pa_cons (pv 3) pa_nil)))) pa_nil))) (pg_two (K := K) (i := 14) (j := 15) rfl rfl sc_law_right.nd rfl rfl (Or.inl rfl) (Or.inr rfl)))
    (pss_cons (ps_set (i := 16) sc_law_right.nd rfl (Or.inl rfl) (C8.pe_c (c_inserted T) hr (by decide) (by rfl) (pa_cons (pv 4) (pa_cons (pv 2) (pa_cons (pv 14) pa_nil)))))
    (pss_cons (ps_if (PW.pt (pw_or (pt_cmpR (op_neSame hr.units) (pv 14) (pv 8) (nomark _)) (pw_or (pt_not (pt_val (pe_callB call_isK (by rfl) T.m_isinstance (by decide +kernel) (pa_cons (pv 16) (pa_cons (pe_bltn (v := .ty "tuple") (by rfl) T.m_tuple (by decide +kernel) rfl) pa_nil))))) (pw_or1 (pt_cmpR op_ne (pe_callB call_len_seq (by rfl) T.m_len (by decide +kernel) (pa_cons (pv 16) pa_nil)) (pe_op op_add (pv 2) pe_int) (nomark _))))))
    (pss_one (ps_ret pe_bl))
    pss_nil)
    (pss_cons (ps_set (i := 17) sc_law_right.nd rfl (Or.inl rfl) (pe_lst (pa_cons (pe_op op_add (pe_ix ix_tup (pv 4) pe_int (fun _ _ => rfl)) (pe_callB (cr_sum rfl) (by rfl) T.m_sum (by decide +kernel) (pa_cons (pe_lc (own := [("_law_step", 18), ("_law_form_here", 19)]) (by rfl) sc_law_right.nd (pi_zipB (K := K) rfl (by rfl) T.m_zip (pa_cons (pe_slice sl_drop (pv 4) (po_some pe_int) po_none) (pa_cons (pv 8) pa_nil))) (blkOk_by (N := ["_law_generator_here", "_law_many", "_law_inner", "_law_most", "_law_one", "_law_other", "_law_point_here", "_law_number", "_law_forms", "_law_turn", "_law_low", "_law_high", "_law_item", "_law_shown", "_law_given", "_law_place", "_law_told", "_law_due", "_law_step", "_law_form_here", "_law_at", "_law_spoilt", "_law_wrong"]) (sc := C8.fnScope (topS 48)) (own := [("_law_step", 18), ("_law_form_here", 19)]) (by decide +kernel)) (fun _ _ _ _ _ => (pg_two (K := K) (i := 18) (j := 19) rfl rfl sc_law_right.nd rfl rfl (Or.inl rfl) (Or.inl rfl))) (fun _ _ _ _ _ => pts_nil) (fun _ _ _ _ _ => (pe_op op_mulW (pv 18) (pe_ix ix_tupH (pv 19) pe_int (fun _ _ => rfl))))) pa_nil))) pa_nil)))
    (pss_cons (ps_set (i := 17) sc_law_right.nd rfl (Or.inl rfl) (pe_op op_cat (pv 17) (pe_lc (own := [("_law_at", 20)]) (by rfl) sc_law_right.nd (pi_range2 (by rfl) T.m_range (pa_cons pe_int (pa_cons (pe_op op_add (pv 2) pe_int) pa_nil))) (blkOk_by (N := ["_law_generator_here", "_law_many", "_law_inner", "_law_most", "_law_one", "_law_other", "_law_point_here", "_law_number", "_law_forms", "_law_turn", "_law_low", "_law_high", "_law_item", "_law_shown", "_law_given", "_law_place", "_law_told", "_law_due", "_law_step", "_law_form_here", "_law_at", "_law_spoilt", "_law_wrong"]) (sc := C8.fnScope (topS 48)) (own := [("_law_at", 20)]) (by decide +kernel)) (fun _ _ _ _ _ => (pg_name (i := 20) sc_law_right.nd rfl (Or.inr rfl))) (fun _ _ _ _ _ => pts_nil) (fun _ _ _ _ _ => (pe_callB (cr_sumH rfl) (by rfl) T.m_sum (by decide +kernel) (pa_cons (pe_lc (own := [("_law_step", 18), ("_law_form_here", 19)]) (by rfl) sc_law_right.nd (pi_zipB (K := K) rfl (by rfl) T.m_zip (pa_cons (pe_slice sl_drop (pv 4) (po_some pe_int) po_none) (pa_cons (pv 8) pa_nil))) (blkOk_by (own := [("_law_step", 18), ("_law_form_here", 19)]) (by rfl)) (fun _ _ _ _ _ => (pg_two (K := K) (i := 18) (j := 19) rfl rfl sc_law_right.nd rfl rfl (Or.inl rfl) (Or.inl rfl))) (fun _ _ _ _ _ => pts_nil) (fun _ _ _ _ _ => (pe_op op_mulW (pv 18) (pe_ix ix_tupH (pv 19) (pv 20) (fun _ _ => rfl))))) pa_nil))))))
    (pss_cons (ps_if (PW.pt (pw_or (pt_cmpR (op_neSame hr.units) (pv 16) (pe_callTy call_tupL (by rfl) T.m_tuple (by decide +kernel) (pa_cons (pv 17) pa_nil)) (nomark _)) (pw_or1 (pt_cmpR op_ne (C8.pe_c (c_value T) hr (by decide) (by rfl) (pa_cons (pv 16) (pa_cons (pe_callTy call_list_of (by rfl) T.m_list (by decide +kernel) (pa_cons (pv 15) pa_nil)) pa_nil))) (C8.pe_c (c_value T) hr (by decide) (by rfl) (pa_cons (pv 4) (pa_cons (pe_lc (own := [("_law_form_here", 19)]) (by rfl) sc_law_right.nd (pi_list (pv 8)) (blkOk_by (N := ["_law_generator_here", "_law_many", "_law_inner", "_law_most", "_law_one", "_law_other", "_law_point_here", "_law_number", "_law_forms", "_law_turn", "_law_low", "_law_high", "_law_item", "_law_shown", "_law_given", "_law_place", "_law_told", "_law_due", "_law_step", "_law_form_here", "_law_at", "_law_spoilt", "_law_wrong"]) (sc := C8.fnScope (topS 48)) (own := [("_law_form_here", 19)]) (by decide +kernel)) (fun _ _ _ _ _ => (pg_name (i := 19) sc_law_right.nd rfl (Or.inl rfl))) (fun _ _ _ _ _ => pts_nil) (fun _ _ _ _ _ => (C8.pe_c (c_value T) hr (by decide) (by rfl) (pa_cons (pv 19) (pa_cons (pe_callTy call_listL (by rfl) T.m_list (by decide +kernel) (pa_cons (pv 15) pa_nil)) pa_nil))))) pa_nil))) (nomark _)))))
    (pss_one (ps_ret pe_bl))
    pss_nil)
    (pss_cons (ps_if (PW.pt (pw_or (pt_cmpR op_notBl (C8.pe_c (c_is_form T) hr (by decide) (by rfl) (pa_cons (pv 1) (pa_cons (pv 4) pa_nil))) pe_bl (nomark _)) (pw_or1 (pt_not (pt_val (C8.pe_c (c_law_yes T) hr (by decide) (by rfl) (pa_cons (C8.pe_c (c_is_form T) hr (by decide) (by rfl) (pa_cons (pv 2) (pa_cons (pv 4) pa_nil))) (pa_cons (pe_cmpR op_eq (pv 2) (pv 1) (nomark _)) pa_nil))))))))
    (pss_one (ps_ret pe_bl))
    pss_nil)
    hu19))))))), ?_⟩
  intro D σ H g pO pR pP pF m k most num one other pt ps fs v eσ W G nPg nFg lO m3 k3 bO B0 B1 n0 n1 lf bf q
  subst eσ
  have bd1 : (most : Int) < 2 ^ 1000 := Int.lt_of_le_of_lt B1 (by decide)
  have bdO := bO.bd bd1
  have nnO := bO.nn
  have mm : most * most ≤ 10 ^ 29 * 10 ^ 29 := Int.mul_le_mul B1 B1 B0 (by decide)
  have mm0 : 0 ≤ most * most := Int.mul_nonneg B0 B0
  have BV : most + most * most * 3 ≤ 10 ^ 60 := by omega
  have BV1 : most + most * most * 3 < 2 ^ 1000 := Int.lt_of_le_of_lt BV (by decide)
  -- given, place
  refine ⟨_, rfl, pF, _, rfl, .inl (.inl (.inl W.f.at_)), fun pG nG => ?_⟩
  have nGg : pG ≠ g := G.ne nG
  have W1 := W.same (sameNew (o := .lst (ps.map V.ref)) nG)
  have F1 : FL (upd H pG (.lst (ps.map V.ref))) pG ps fs := ⟨upd_same, W1.f.len, W1.f.get⟩
  have G1 := G.same (sameNew (o := .lst (ps.map V.ref)) nG)
  refine ⟨_, rfl, _, rfl, _, rfl, g, k, 800, most, rfl, G1.le (by omega), k3, B0, Int.lt_of_le_of_lt B1 (by decide), fun pQ pl H1 s1 G2 nQ lQ llQ bQ => ⟨by show 2 ≤ sizeLine; decide, fun t nt => ⟨t, _, rfl, .inl (.inl upd_same), rfl, _, _, rfl, _, _, rfl, rfl, ?_⟩⟩⟩
  have W2 := (W1.sameX nPg nFg G1 s1).same (sameNew (o := .tup [.ref pG, .ref pQ]) nt)
  have F2 := (F1.sameX nGg G1 s1).same (sameNew (o := .tup [.ref pG, .ref pQ]) nt)
  have LQ := lQ.same (sameNew (o := .tup [.ref pG, .ref pQ]) nt)
  have G3 := G2.same (sameNew (o := .tup [.ref pG, .ref pQ]) nt)
  have S3 : SameX g H (upd H1 t (.tup [.ref pG, .ref pQ])) := ((sameX_new nG).trans s1).trans (sameX_new nt)
  generalize upd H1 t (.tup [.ref pG, .ref pQ]) = H3 at W2 F2 LQ G3 S3 ⊢
  clear W1 F1 G1 W G s1 G2 nQ lQ nt nG
  have nnQ := bQ.nn
  have bdQ := bQ.bd bd1
  -- told
  have hf3 : ∀ e ∈ fs, e.length = k + 1 ∧ Nn e ∧ Bd e := fun e he => ⟨(bf e he).1, (bf e he).2.nn, (bf e he).2.bd bd1⟩
  obtain ⟨c, r, rfl⟩ : ∃ c r, one = c :: r := by cases one with | nil => simp at lO | cons c r => exact ⟨c, r, rfl⟩
  have lr : r.length = m := by simpa using lO
  have lrf : r.length = fs.length := by omega
  have br : In0 most r := fun x hx => bO x (List.mem_cons_of_mem _ hx)
  have bc := bO c List.mem_cons_self
  try dsimp only
  refine ⟨_, rfl, _, rfl, _, rfl, pO, pG, c :: r, k, ps, fs, rfl, W2.o, nnO, by simp, by rw [lO]; omega, bdO, k3, F2, by rw [lf, lO], hf3, fun pT H4 s4 tT => ?_⟩
  have W4 := W2.same s4
  have F4 := F2.same s4
  have L4 := LQ.same s4
  have G4 := G3.same s4
  have S4 := S3.trans (.of s4)
  clear W2 F2 LQ G3 S3 s4
  have ie := ins_eq c r fs k (fun e he => (bf e he).1) lrf
  have lT : (insL (c :: r) k fs).length = k + 1 := by rw [ie]; simp
  have cb : ∀ z, 0 ≤ colL r fs z ∧ colL r fs z ≤ most * most * 3 := fun z => col_bound br (fun e he => (bf e he).2) (by omega) B0 B0 z
  have bT : In0 (most + most * most * 3) (insL (c :: r) k fs) := fun x hx => by
    rw [ie] at hx
    rcases List.mem_cons.mp hx with z | z
    · have := cb 0
      omega
    · obtain ⟨i, _, rfl⟩ := List.mem_map.mp z
      have := cb (i + 1)
      omega
  generalize hti : insL (c :: r) k fs = tl at tT ie lT bT
  try dsimp only
  refine if_no (fun R q' => ?_) fun H5 s5 => ?_
  · refine ⟨_, rfl, _, rfl, .list (fs.map dI), dp_FL F4, dp_FL W4.f, shaped_forms fs, _, rfl, iteF ?_⟩
    refine ⟨_, rfl, .ref pT, "tuple", true, rfl, .tup tT, by rw [tnm_tup tT]; decide +kernel, _, rfl, iteF ?_⟩
    refine ⟨_, rfl, pT, _, rfl, .inr (.inl (.inl tT)), _, rfl, _, _, rfl, rfl, rfl, _, rfl, ?_⟩
    rw [decide_eq_true (congrArg V.int (show (((tl.map V.int).length : Nat) : Int) = (k : Int) + 1 by rw [List.length_map, lT]; simp))]
    exact q' _ (Same.refl _)
  have W5 := W4.same s5
  have L5 := L4.same s5
  have G5 := G4.same s5
  have T5 : TI H5 pT tl := TI.same tT s5
  have S5 := S4.trans (.of s5)
  clear W4 F4 L4 G4 S4 tT s5
  have fps : r.length = ps.length := by rw [lrf, W5.f.len]
  -- due: the constant
  try dsimp only
  refine ⟨_, rfl, pO, _, 0, .int c, rfl, rfl, .inl (.inl W5.o), atI_nat (j := 0) rfl, ?_⟩
  refine ⟨_, rfl, 1, rfl, pO, _, 1, rfl, rfl, rfl, W5.o, fun p1 H6 s6 h6 => ?_⟩
  have h6' : TI H6 p1 r := h6
  have W6 := W5.same s6
  refine ⟨_, rfl, .T, .L, p1, pF, r.map V.int, ps.map V.ref, rfl, .inl (.inl h6'), .inl (.inl W6.f.at_), ?_⟩
  refine fun D1 nD1 => lcZ_mapI (fun i => .int (r.getD i 0 * (fs.getD i []).getD 0 0)) (by rw [List.length_map, List.length_map, fps]) (by rw [List.length_map]; exact small5 (by omega)) (fun H' s => ⟨.inl (.inl (s _ _ h6')), .inl (.inl (s _ _ W6.f.at_))⟩) (fun i x y H' R hx hy s q' => ?_) nD1 fun H7 s7 hL => ?_
  · obtain ⟨x', mx, ex, rfl⟩ := get_int hx
    obtain ⟨p, hp, rfl⟩ := get_ref hy
    obtain ⟨e, he, me⟩ := get_of_len W6.f.len hp
    have te := (W6.f.get i p e hp he).same s
    have le := (bf e me).1
    have := getD_bound (bf e me).2 B0 0
    refine ⟨rfl, _, rfl, _, rfl, p, _, 0, _, rfl, rfl, te, at_int 0 rfl (by omega), _, _, rfl, rfl, mulOk (ab (br x' mx).1 (Int.lt_of_le_of_lt (br x' mx).2 bd1)) (ab this.1 (Int.lt_of_le_of_lt this.2 bd1)), ?_⟩
    have e1 : r.getD i 0 = x' := getD_of ex
    have e2 : fs.getD i [] = e := getD_of he
    rw [e1, e2] at q'
    exact q' _ (Same.refl _)
  rw [col_list r fs 0 lrf] at hL
  refine ⟨D1, _, rfl, .inl (.inl hL), c, colL r fs 0, rfl, rfl, by show 1 ≤ sizeLine; decide, fun pd npd => ?_⟩
  have W7 := (W6.same s7).same (sameNew (o := .lst [.int (c + colL r fs 0)]) npd)
  have b7 : Same H5 (upd H7 pd (.lst [.int (c + colL r fs 0)])) := (s6.trans s7).trans (sameNew npd)
  have hd7 : (upd H7 pd (.lst [.int (c + colL r fs 0)])) pd = some (.lst [.int (c + colL r fs 0)]) := upd_same
  have L7 := L5.same b7
  have G7 := G5.same b7
  have T7 := T5.same b7
  have S7 := S5.trans (.of b7)
  try dsimp only
  generalize upd H7 pd (.lst [.int (c + colL r fs 0)]) = H8 at W7 b7 hd7 L7 G7 T7 S7 ⊢
  clear W5 W6 L5 G5 T5 S5 h6 h6' hL s6 s7 nD1 npd b7
  -- due: the others
  refine ⟨_, rfl, _, rfl, _, _, rfl, rfl, 1, _, rfl, ⟨by decide, by decide, by omega, by omega⟩, ?_⟩
  rw [show ((k : Int) + 1 - 1).toNat = k by omega]
  refine fun D2 nD2 => lcR_map (lo := 1) (n := k) (fun i => .int (colL r fs (i + 1))) (small5 (by omega)) (fun i H' R hi s q' => ?_) nD2 fun H9 s9 hL => ?_
  · refine ⟨rfl, ?_⟩
    have Wa := W7.same s
    refine ⟨_, rfl, 1, rfl, pO, _, 1, rfl, rfl, rfl, Wa.o, fun p1 Ha sa ha => ?_⟩
    have ha' : TI Ha p1 r := ha
    have Wb := Wa.same sa
    refine ⟨_, rfl, .T, .L, p1, pF, r.map V.int, ps.map V.ref, rfl, .inl (.inl ha'), .inl (.inl Wb.f.at_), ?_⟩
    refine fun D3 nD3 => lcZ_mapI (fun z => .int (r.getD z 0 * (fs.getD z []).getD (i + 1) 0)) (by rw [List.length_map, List.length_map, fps]) (by rw [List.length_map]; exact small5 (by omega)) (fun H' s => ⟨.inl (.inl (s _ _ ha')), .inl (.inl (s _ _ Wb.f.at_))⟩) (fun z x y H' R hx hy s q' => ?_) nD3 fun Hb sb hL => ?_
    · obtain ⟨x', mx, ex, rfl⟩ := get_int hx
      obtain ⟨p, hp, rfl⟩ := get_ref hy
      obtain ⟨e, he, me⟩ := get_of_len Wb.f.len hp
      have te := (Wb.f.get z p e hp he).same s
      have le := (bf e me).1
      have := getD_bound (bf e me).2 B0 (i + 1)
      refine ⟨rfl, _, rfl, _, rfl, _, rfl, p, _, _, _, rfl, rfl, te, at_int (i + 1) (by omega) (by omega), _, _, rfl, rfl, mulOk (ab (br x' mx).1 (Int.lt_of_le_of_lt (br x' mx).2 bd1)) (ab this.1 (Int.lt_of_le_of_lt this.2 bd1)), ?_⟩
      have e1 : r.getD z 0 = x' := getD_of ex
      have e2 : fs.getD z [] = e := getD_of he
      rw [e1, e2] at q'
      exact q' _ (Same.refl _)
    · rw [col_list r fs (i + 1) lrf] at hL
      exact ⟨D3, _, rfl, hL, q' _ (sa.trans sb)⟩
  refine ⟨pd, D2, _, _, rfl, rfl, s9 _ _ hd7, hL, by simp; exact Nat.le_of_lt (small5 (by omega)), fun pe npe => ?_⟩
  have W9 := (W7.same s9).same (sameNew (o := .lst ([V.int (c + colL r fs 0)] ++ (List.range k).map fun i => V.int (colL r fs (i + 1)))) npe)
  have b9 : Same H8 (upd H9 pe (.lst ([V.int (c + colL r fs 0)] ++ (List.range k).map fun i => V.int (colL r fs (i + 1))))) := s9.trans (sameNew npe)
  have he9 : (upd H9 pe (.lst ([V.int (c + colL r fs 0)] ++ (List.range k).map fun i => V.int (colL r fs (i + 1))))) pe = some (.lst (tl.map V.int)) := by
    rw [upd_same, ie, List.map_cons, List.map_map]
    rfl
  have L9 := L7.same b9
  have G9 := G7.same b9
  have T9 := T7.same b9
  have S9 := S7.trans (.of b9)
  try dsimp only
  generalize upd H9 pe (.lst ([V.int (c + colL r fs 0)] ++ (List.range k).map fun i => V.int (colL r fs (i + 1)))) = Ha at W9 b9 he9 L9 G9 T9 S9 ⊢
  clear W7 hd7 L7 G7 T7 S7 hL s9 nD2 npe b9
  -- told, and its value
  refine if_no (fun R q' => ?_) fun Hb sb => ?_
  · refine ⟨_, rfl, _, rfl, pe, _, rfl, he9, fun l Hc sc hc => ⟨dI tl, dp_ints (T9.same sc), dp_ints hc, shaped_dI _, _, rfl, iteF ?_⟩⟩
    have Wc := W9.same sc
    have Lc := L9.same sc
    have Tc := T9.same sc
    refine ⟨_, rfl, _, rfl, pQ, _, rfl, .inl (.inl (.inl Lc)), fun l2 nl => ⟨pT, l2, tl, pl, rfl, Tc.same (sameNew nl), upd_same, bT.nn, nnQ, by omega, by omega, by omega, bT.bd BV1, bdQ, fun Hd sd => ?_⟩⟩
    have Wd' := (Wc.same (sameNew (o := .lst (pl.map V.int)) nl)).same sd
    have Ld := (Lc.same (sameNew (o := .lst (pl.map V.int)) nl)).same sd
    refine ⟨_, rfl, _, rfl, pF, rfl, ⟨_, .inl (.inl Wd'.f.at_)⟩, ?_⟩
    have vb : ∀ e ∈ fs, 0 ≤ valL e pl ∧ valL e pl ≤ most + most * most * 3 := fun e he => val_bound (bf e he).2 bQ (by rw [(bf e he).1]; omega) (by rw [(bf e he).1]; omega) B0 B0
    refine fun D4 nD4 => lcL_mapI (fun i => .int (valL (fs.getD i []) pl)) Wd'.f.at_ (by rw [List.length_map, ← fps]; exact small5 (by omega)) (fun i x H' R hx s q' => ?_) nD4 fun He se hL => ?_
    · obtain ⟨p, hp, rfl⟩ := get_ref hx
      obtain ⟨e, he, me⟩ := get_of_len Wd'.f.len hp
      have te := (Wd'.f.get i p e hp he).same s
      obtain ⟨a1, a2, a3⟩ := hf3 e me
      refine ⟨rfl, _, rfl, _, rfl, pQ, _, rfl, Ld.same s, fun l3 nl3 => ⟨p, l3, e, pl, rfl, te.same (sameNew nl3), upd_same, a2, nnQ, by omega, by omega, by omega, a3, bdQ, fun Hf sf => ?_⟩⟩
      have e2 : fs.getD i [] = e := getD_of he
      rw [e2] at q'
      exact q' _ ((sameNew nl3).trans sf)
    · rw [val_list ps fs pl Wd'.f.len] at hL
      have We := Wd'.same se
      refine ⟨pO, D4, c :: r, fs.map fun e => valL e pl, rfl, We.o, hL, nnO, fun x hx => ?_, by simp, by rw [lO]; omega, by rw [List.length_map, lf, lO], bdO, fun x hx => ?_, fun Hg sg => ⟨rfl, _, rfl, ?_⟩⟩
      · obtain ⟨e, he, rfl⟩ := List.mem_map.mp hx
        exact (vb e he).1
      · obtain ⟨e, he, rfl⟩ := List.mem_map.mp hx
        exact ab (vb e he).1 (Int.lt_of_le_of_lt (vb e he).2 BV1)
      · have hv := val_ins c r fs k pl (fun e he => (bf e he).1) lrf
        rw [hti] at hv
        rw [decide_eq_true (congrArg V.int hv)]
        exact q' _ ((((sc.trans (sameNew nl)).trans sd).trans se).trans sg)
  have Wb := W9.same sb
  have Gb := G9.same sb
  have Sb := S9.trans (.of sb)
  clear W9 L9 G9 T9 S9 he9 sb
  refine if_no (fun R q' => ?_) fun Hc sc => ?_
  · have ft : ∀ {H' : Hp}, Wd g pO pR pP pF (c :: r) other pt ps fs H' → ∀ a xs, V.ref pO = .ref a → H' a = some (.tup xs) → xs.length < sizeLine ∧ ∀ x ∈ xs, Kn H' x := fun {H'} W' a xs e h => by
      cases e
      have := h.symm.trans W'.o
      cases this
      exact ⟨by rw [List.length_map]; exact small5 (by omega), kn_ints⟩
    refine ⟨_, rfl, _, rfl, m, .ref pO, rfl, by omega, by omega, .tup Wb.o, ft Wb, fun Hd sd => ⟨_, true, rfl, rfl, _, rfl, ?_⟩⟩
    rw [formB_TI Wb.o nnO, decide_eq_true (show (((c :: r).length : Nat) : Int) = (m : Int) + 1 by rw [lO]; simp)]
    have Wd' := Wb.same sd
    refine iteF ⟨_, rfl, _, rfl, k, .ref pO, rfl, by omega, by omega, .tup Wd'.o, ft Wd', fun He se => ⟨_, rfl, _, rfl, rfl, _, _, rfl, ?_, _, rfl, q' _ (sd.trans se)⟩⟩
    rw [formB_TI Wd'.o nnO]
    by_cases z : k = m
    · subst z
      rw [decide_eq_true (show (((c :: r).length : Nat) : Int) = (k : Int) + 1 by rw [lO]; simp), decide_eq_true rfl]
    · rw [decide_eq_false (show ¬ (((c :: r).length : Nat) : Int) = (k : Int) + 1 by rw [lO]; simp; omega), decide_eq_false (fun y => z (by have := V.int.inj y; omega))]
  have Wc := Wb.same sc
  have Gc := Gb.same sc
  have Sc := Sb.trans (.of sc)
  try dsimp only
  exact hq19 _ _ Hc g pO m num (c :: r) _ _ _ _ _ _ _ _ _ _ _ _ _ _ _ _ rfl Wc.o (Gc.le (by omega)) lO m3 nnO bdO n0 fun H' s' => q H' (Sc.trans s')
end
end K11

set_option Elab.async false
set_option linter.all false
set_option maxRecDepth 100000
set_option maxHeartbeats 8000000
namespace K11
open PySem PySem.Spec PyProof.Rows L2 CK
section
variable {P : Program} {w : World} {K : PySem.W.Frag} {mg : Str → Option Value} {base : Heap}
def sp_law_right : Sp := fun vs H Q _ => ∃ g : Addr, vs = [.ref g] ∧ Gn 1000 H g ∧ ∀ H', SameX g H H' → Q (.bl true) H'
theorem c_law_right (T : Txt K mg) : C8.Cal P w K mg base 8 "_law_right" sp_law_right [] := by
  refine calF T.d_law_right sc_law_right (fun vs H Q E h => ?_) (fun f cdv A outer s H vs Q E hr h => ?_)
  · obtain ⟨_, rfl, _⟩ := h; rfl
  · obtain ⟨g, rfl, G, q⟩ := h
    obtain ⟨u12, hu12, hq12⟩ := right_B (P := P) (w := w) (base := base) T f cdv A outer s H E hr
    refine ⟨_, (pss_cons (ps_asg (pe_tup (pa_cons (C8.pe_c (c_law_random T) hr (by decide) (by rfl) (pa_cons (pv 0) (pa_cons pe_int pa_nil))) (pa_cons (C8.pe_c (c_law_random T) hr (by decide) (by rfl) (pa_cons (pv 0) (pa_cons pe_int pa_nil))) pa_nil))) (pg_two (K := K) (i := 1) (j := 2) rfl rfl sc_law_right.nd rfl rfl (Or.inr rfl) (Or.inr rfl)))
    (pss_cons (ps_set (i := 3) sc_law_right.nd rfl (Or.inr rfl) (pe_ix ix_list (pe_lst (pa_cons pe_int (pa_cons (pe_op op_powB pe_int pe_int) (pa_cons (pe_op op_powB pe_int pe_int) pa_nil)))) (C8.pe_c (c_law_random T) hr (by decide) (by rfl) (pa_cons (pv 0) (pa_cons pe_int pa_nil))) (fun _ _ => rfl)))
    (pss_cons (ps_set (i := 4) sc_law_right.nd rfl (Or.inr rfl) (C8.pe_c (c_law_form T) hr (by decide) (by rfl) (pa_cons (pv 0) (pa_cons (pv 1) (pa_cons (pv 3) pa_nil)))))
    (pss_cons (ps_par (i := 5) (j := 6) (by rfl) sc_law_right.nd rfl rfl (by decide) rfl rfl (pa_cons (C8.pe_c (c_law_near T) hr (by decide) (by rfl) (pa_cons (pv 0) (pa_cons (pv 4) (pa_cons (pv 3) pa_nil)))) (pa_cons (C8.pe_c (c_law_point T) hr (by decide) (by rfl) (pa_cons (pv 0) (pa_cons (pv 1) (pa_cons (pv 3) pa_nil)))) pa_nil)) (by rfl))
    (pss_cons (ps_asg (pe_tup (pa_cons (C8.pe_c (c_law_random T) hr (by decide) (by rfl) (pa_cons (pv 0) (pa_cons (pe_op op_add (pv 3) pe_int) pa_nil))) (pa_cons (pe_lc (own := [("_law_turn", 9)]) (by rfl) sc_law_right.nd (pi_range1 (by rfl) T.m_range (pa_cons (pv 1) pa_nil)) (blkOk_by (N := ["_law_generator_here", "_law_many", "_law_inner", "_law_most", "_law_one", "_law_other", "_law_point_here", "_law_number", "_law_forms", "_law_turn", "_law_low", "_law_high", "_law_item", "_law_shown", "_law_given", "_law_place", "_law_told", "_law_due", "_law_step", "_law_form_here", "_law_at", "_law_spoilt", "_law_wrong"]) (sc := C8.fnScope (topS 48)) (own := [("_law_turn", 9)]) (by decide +kernel)) (fun _ _ _ _ _ => (pg_name (i := 9) sc_law_right.nd rfl (Or.inl rfl))) (fun _ _ _ _ _ => pts_nil) (fun _ _ _ _ _ => (C8.pe_c (c_law_form T) hr (by decide) (by rfl) (pa_cons (pv 0) (pa_cons (pv 2) (pa_cons (pv 3) pa_nil)))))) pa_nil))) (pg_two (K := K) (i := 7) (j := 8) rfl rfl sc_law_right.nd rfl rfl (Or.inr rfl) (Or.inr rfl)))
    (pss_cons (ps_if (pt_not (pt_val (C8.pe_c (c_law_is_whole T) hr (by decide) (by rfl) (pa_cons (C8.pe_c (c_value T) hr (by decide) (by rfl) (pa_cons (pv 4) (pa_cons (pe_callTy call_list_of (by rfl) T.m_list (by decide +kernel) (pa_cons (pv 6) pa_nil)) pa_nil))) (pa_cons (C8.pe_c (c_law_value T) hr (by decide) (by rfl) (pa_cons (pv 4) (pa_cons (pv 6) pa_nil))) pa_nil)))))
    (pss_one (ps_ret pe_bl))
    pss_nil)
    (pss_cons (ps_if (pt_cmpR (op_neSame hr.units) (C8.pe_c (c_added T) hr (by decide) (by rfl) (pa_cons (pv 4) (pa_cons (pv 5) pa_nil))) (pe_callTy call_tupL (by rfl) T.m_tuple (by decide +kernel) (pa_cons (pe_lc (own := [("_law_low", 10), ("_law_high", 11)]) (by rfl) sc_law_right.nd (pi_zipB (K := K) rfl (by rfl) T.m_zip (pa_cons (pv 4) (pa_cons (pv 5) pa_nil))) (blkOk_by (N := ["_law_generator_here", "_law_many", "_law_inner", "_law_most", "_law_one", "_law_other", "_law_point_here", "_law_number", "_law_forms", "_law_turn", "_law_low", "_law_high", "_law_item", "_law_shown", "_law_given", "_law_place", "_law_told", "_law_due", "_law_step", "_law_form_here", "_law_at", "_law_spoilt", "_law_wrong"]) (sc := C8.fnScope (topS 48)) (own := [("_law_low", 10), ("_law_high", 11)]) (by decide +kernel)) (fun _ _ _ _ _ => (pg_two (K := K) (i := 10) (j := 11) rfl rfl sc_law_right.nd rfl rfl (Or.inl rfl) (Or.inl rfl))) (fun _ _ _ _ _ => pts_nil) (fun _ _ _ _ _ => (pe_op op_add (pv 10) (pv 11)))) pa_nil)) (nomark _))
    (pss_one (ps_ret pe_bl))
    pss_nil)
    (pss_cons (ps_if (PW.pt (pw_or (pt_cmpR (op_neSame hr.units) (C8.pe_c (c_scaled T) hr (by decide) (by rfl) (pa_cons (pv 7) (pa_cons (pv 4) pa_nil))) (pe_callTy call_tupL (by rfl) T.m_tuple (by decide +kernel) (pa_cons (pe_lc (own := [("_law_item", 12)]) (by rfl) sc_law_right.nd (pi_tup (pv 4)) (blkOk_by (N := ["_law_generator_here", "_law_many", "_law_inner", "_law_most", "_law_one", "_law_other", "_law_point_here", "_law_number", "_law_forms", "_law_turn", "_law_low", "_law_high", "_law_item", "_law_shown", "_law_given", "_law_place", "_law_told", "_law_due", "_law_step", "_law_form_here", "_law_at", "_law_spoilt", "_law_wrong"]) (sc := C8.fnScope (topS 48)) (own := [("_law_item", 12)]) (by decide +kernel)) (fun _ _ _ _ _ => (pg_name (i := 12) sc_law_right.nd rfl (Or.inl rfl))) (fun _ _ _ _ _ => pts_nil) (fun _ _ _ _ _ => (pe_op op_mulW (pv 7) (pv 12)))) pa_nil)) (nomark _)) (pw_or1 (pt_not (pt_val (pe_callB call_isK (by rfl) T.m_isinstance (by decide +kernel) (pa_cons (C8.pe_c (c_scaled T) hr (by decide) (by rfl) (pa_cons pe_int (pa_cons (pv 4) pa_nil))) (pa_cons (pe_bltn (v := .ty "tuple") (by rfl) T.m_tuple (by decide +kernel) rfl) pa_nil))))))))
    (pss_one (ps_ret pe_bl))
    pss_nil)
    (pss_cons (ps_set (i := 13) sc_law_right.nd rfl (Or.inl rfl) (C8.pe_c (c_law_point_above T) hr (by decide) (by rfl) (pa_cons (pv 4) (pa_cons (pv 5) pa_nil))))
    (pss_cons (ps_if (PW.pt (pw_or (pt_not (pt_val (C8.pe_c (c_law_yes T) hr (by decide) (by rfl) (pa_cons (C8.pe_c (c_below T) hr (by decide) (by rfl) (pa_cons (pv 4) (pa_cons (pv 5) pa_nil))) (pa_cons (pe_cmpR op_isN (pv 13) pe_non (nomark _)) pa_nil))))) (pw_or1 (pt_cmpR op_notBl (C8.pe_c (c_below T) hr (by decide) (by rfl) (pa_cons (pv 4) (pa_cons (pv 4) pa_nil))) pe_bl (nomark _)))))
    (pss_one (ps_ret pe_bl))
    pss_nil)
    (pss_cons (ps_if (PW.pt (pw_and (pt_cmpR op_notN (pv 13) pe_non (nomark _)) (pw_and1 (pt_cmpR op_le (C8.pe_c (c_value T) hr (by decide) (by rfl) (pa_cons (pv 4) (pa_cons (pv 13) pa_nil))) (C8.pe_c (c_value T) hr (by decide) (by rfl) (pa_cons (pv 5) (pa_cons (pv 13) pa_nil))) (nomark _)))))
    (pss_one (ps_ret pe_bl))
    pss_nil)
    (pss_cons (ps_if (PW.pt (pw_and (pt_cmpR op_isN (pv 13) pe_non (nomark _)) (pw_and1 (pt_cmpR op_gt (C8.pe_c (c_value T) hr (by decide) (by rfl) (pa_cons (pv 4) (pa_cons (pe_callTy call_list_of (by rfl) T.m_list (by decide +kernel) (pa_cons (pv 6) pa_nil)) pa_nil))) (C8.pe_c (c_value T) hr (by decide) (by rfl) (pa_cons (pv 5) (pa_cons (pe_callTy call_list_of (by rfl) T.m_list (by decide +kernel) (pa_cons (pv 6) pa_nil)) pa_nil))) (nomark _)))))
    (pss_one (ps_ret pe_bl))
    pss_nil)
    hu12)))))))))))), ?_⟩
    -- many, inner
    refine ⟨_, rfl, g, 4, 999, rfl, G, by decide, by decide, fun mz H1 s1 G1 m0 m1 => ?_⟩
    refine ⟨_, rfl, g, 4, 998, rfl, G1, by decide, by decide, fun iz H2 s2 G2 i0 i1 => ⟨by show 2 ≤ sizeLine; decide, fun t nt => ⟨t, _, rfl, .inl (.inl upd_same), rfl, _, _, rfl, _, _, rfl, rfl, ?_⟩⟩⟩
    have S3 : SameX g H (upd H2 t (.tup [.int mz, .int iz])) := (s1.trans s2).trans (sameX_new nt)
    have G3 : Gn 998 (upd H2 t (.tup [.int mz, .int iz])) g := G2.upd (G2.ne nt)
    generalize upd H2 t (.tup [.int mz, .int iz]) = H3 at S3 G3 ⊢
    obtain ⟨m, rfl⟩ : ∃ m : Nat, mz = m := ⟨mz.toNat, by omega⟩
    obtain ⟨k, rfl⟩ : ∃ k : Nat, iz = k := ⟨iz.toNat, by omega⟩
    have m3 : m ≤ 3 := by omega
    have k3 : k ≤ 3 := by omega
    clear s1 s2 G1 G2 nt
    -- most
    refine ⟨_, _, rfl, rfl, ⟨by decide, by decide⟩, _, _, rfl, rfl, ⟨by decide, by decide⟩, by show 3 ≤ sizeLine; decide, fun L nL => ?_⟩
    refine ⟨_, rfl, g, 3, 997, rfl, G3.upd (G3.ne nL), by decide, by decide, fun r H4 s4 G4 r0 r1 => ?_⟩
    have hL := s4 L _ (G3.ne nL) upd_same
    obtain ⟨most, hv, B0, B1⟩ : ∃ most : Int, atI [V.int 2, V.int (10 ^ Int.toNat 6), V.int (10 ^ Int.toNat 29)] r = some (.int most) ∧ 0 ≤ most ∧ most ≤ 10 ^ 29 := by
      have : r = 0 ∨ r = 1 ∨ r = 2 := by omega
      rcases this with rfl | rfl | rfl
      · exact ⟨2, rfl, by decide, by decide⟩
      · exact ⟨10 ^ 6, rfl, by decide, by decide⟩
      · exact ⟨10 ^ 29, rfl, by decide, by decide⟩
    refine ⟨L, _, r, .int most, rfl, rfl, .inl (.inl hL), hv, ?_⟩
    have S4 : SameX g H H4 := (S3.trans (sameX_new nL)).trans s4
    have B2 : most < 2 ^ 199 := Int.lt_of_le_of_lt B1 (by decide)
    have BB : most + 1 ≤ 10 ^ 30 := by omega
    clear s4 hL hv S3 G3 nL
    -- one, other, point
    refine ⟨_, rfl, _, rfl, _, rfl, g, m, 990, most, rfl, G4.le (by omega), m3, B0, B2, fun pO one H5 s5 G5 tO lO bO => ?_⟩
    refine ⟨_, rfl, _, rfl, _, rfl, g, pO, one, m, 980, most, rfl, tO, lO, m3, bO, G5.le (by omega), B0, B2, fun pR other H6 s6 G6 tR lR bR => ?_⟩
    refine ⟨_, rfl, _, rfl, _, rfl, g, m, 970, most, rfl, G6.le (by omega), m3, B0, B2, fun pP pt H7 s7 G7 nP lP llP bP => ⟨_, _, rfl, ?_⟩⟩
    have nPg : pP ≠ g := G6.ne nP
    have tO7 : TI H7 pO one := (s6.trans s7).tup G5 tO
    have tR7 : TI H7 pR other := s7.tup G6 tR
    have S7 : SameX g H H7 := ((S4.trans s5).trans s6).trans s7
    clear s5 s6 s7 tO tR G5 G6 nP S4 G4
    -- number, forms
    refine ⟨_, rfl, _, rfl, _, _, rfl, rfl, g, most + 1, 969, rfl, G7, by omega, Int.lt_of_le_of_lt BB (by decide), fun num H8 s8 G8 n0 n1 => ?_⟩
    refine ⟨_, rfl, (m : Int), rfl, by omega, by omega, ?_⟩
    refine fun D nD => lc_range (lo := 0) (n := m) (fun i H9 => SameX g H8 H9 ∧ Gn (900 + 4 * (m - i)) H9 g ∧ i ≤ m ∧ ∃ ps fs, FL H9 D ps fs ∧ fs.length = i ∧ ∀ e ∈ fs, e.length = k + 1 ∧ In0 most e)
      ⟨sameX_new nD, (G8.upd (G8.ne nD)).le (by omega), Nat.zero_le _, [], [], ⟨upd_same, rfl, fun i p e h1 _ => by simp at h1⟩, rfl, fun e he => absurd he List.not_mem_nil⟩ (fun i H9 hi p => ?_) fun H9 p => ?_
    · obtain ⟨s9, G9, _, ps, fs, F, lf, bf⟩ := p
      have Dg : D ≠ g := G8.ne nD
      refine ⟨rfl, yes_if ?_⟩
      refine ⟨_, rfl, _, rfl, _, rfl, g, k, 900 + 4 * (m - (i + 1)), most, rfl, G9.le (by omega), k3, B0, B2, fun p e Ha sa Ga ta la ba => ?_⟩
      refine ⟨_, sa D _ Dg F.at_, by rw [List.length_map, F.len]; exact small5 (by omega), (s9.trans sa).upd2 nD, Ga.upd Dg, hi, ps ++ [p], fs ++ [e], F.snoc Dg G9 sa ta, by rw [List.length_append, lf]; rfl, fun z hz => ?_⟩
      rcases List.mem_append.mp hz with y | y
      · exact bf z y
      · rw [List.mem_singleton.mp y]
        exact ⟨la, ba⟩
    obtain ⟨s9, G9, _, ps, fs, F, lf, bf⟩ := p
    have Dg : D ≠ g := G8.ne nD
    refine ⟨by show 2 ≤ sizeLine; decide, fun t nt => ⟨t, _, rfl, .inl (.inl upd_same), rfl, _, _, rfl, _, _, rfl, rfl, ?_⟩⟩
    have S9 : SameX g H (upd H9 t (.tup [.int num, .ref D])) := ((S7.trans s8).trans s9).trans (sameX_new nt)
    have G9' : Gn 900 (upd H9 t (.tup [.int num, .ref D])) g := (G9.upd (G9.ne nt)).le (by omega)
    have W : Wd g pO pR pP D one other pt ps fs (upd H9 t (.tup [.int num, .ref D])) :=
      ⟨sameNew nt _ _ (s9.tup G8 (s8.tup G7 tO7)), sameNew nt _ _ (s9.tup G8 (s8.tup G7 tR7)), sameNew nt _ _ (s9 _ _ nPg (s8 _ _ nPg lP)), F.same (sameNew nt)⟩
    generalize upd H9 t (.tup [.int num, .ref D]) = H10 at S9 G9' W ⊢
    clear s8 s9 G7 G8 G9 tO7 tR7 lP nD nt F S7
    -- value
    have nnO := bO.nn
    have nnP := bP.nn
    have bd1 : (most : Int) < 2 ^ 1000 := Int.lt_of_le_of_lt B1 (by decide)
    have bd2 : most + 1 < 2 ^ 1000 := Int.lt_of_le_of_lt BB (by decide)
    have bdO := bO.bd bd1
    have bdR := bR.bd bd2
    have bdP := bP.bd bd1
    try dsimp only
    refine if_no (fun R q' => ?_) fun H11 s11 => ?_
    · refine ⟨_, rfl, _, rfl, pP, _, rfl, .inl (.inl (.inl W.p)), fun l nl => ⟨pO, l, one, pt, rfl, W.o.same (sameNew nl), upd_same, nnO, nnP, by omega, by omega, by omega, bdO, bdP, fun Ha sa => ?_⟩⟩
      have Wa := (W.same (sameNew nl)).same sa
      refine ⟨_, rfl, _, rfl, pO, pP, one, pt, rfl, Wa.o, Wa.p, by omega, by omega, by omega, bdO, bdP, fun Hb sb => ⟨valL one pt, rfl, _, rfl, q' Hb (((sameNew nl).trans sa).trans sb)⟩⟩
    have W := W.same s11
    have S11 := S9.trans (.of s11)
    have G11 := G9'.same s11
    clear s11 S9 G9'
    -- added
    try dsimp only
    refine if_no (fun R q' => ?_) fun H12 s12 => ?_
    · refine ⟨_, rfl, _, rfl, pO, pR, one, other, rfl, W.o, W.r, nnO, bR.nn, by omega, by omega, by omega, fun pa Ha sa ta => ?_⟩
      have Wa := W.same sa
      refine ⟨_, rfl, _, rfl, .T, .T, pO, pR, one.map V.int, other.map V.int, rfl, .inl (.inl Wa.o), .inl (.inl Wa.r), ?_⟩
      refine fun D nD => lcZ_map vAdd (by simp; omega) (by rw [List.length_map]; exact small5 (by omega)) (fun H' s => ⟨.inl (.inl (s _ _ Wa.o)), .inl (.inl (s _ _ Wa.r))⟩) (fun i x y H' R hx hy s q' => ?_) nD fun Hb sb hL => ?_
      · obtain ⟨x', mx, _, rfl⟩ := get_int hx
        obtain ⟨y', my, _, rfl⟩ := get_int hy
        exact ⟨rfl, _, rfl, _, rfl, x', y', rfl, rfl, q' _ (Same.refl _)⟩
      · rw [zip_add] at hL
        exact ⟨D, _, rfl, hL, fun l Hc sc hl => ⟨dI (zadd one other), dp_ints ((ta.same sb).same sc), dp_ints hl, shaped_dI _, _, rfl, q' Hc ((sa.trans sb).trans sc)⟩⟩
    have W := W.same s12
    have S12 := S11.trans (.of s12)
    have G12 := G11.same s12
    clear s12 S11 G11
    -- scaled
    have bnum : num.natAbs < 2 ^ 1000 := ab n0 (by omega)
    try dsimp only
    refine if_no (fun R q' => ?_) fun H13 s13 => ?_
    · refine ⟨_, rfl, _, rfl, num, pO, one, rfl, n0, W.o, nnO, by omega, by omega, bnum, bdO, fun pa Ha sa ta => ?_⟩
      have Wa := W.same sa
      refine ⟨_, rfl, pO, rfl, ⟨_, .inl (.inl Wa.o)⟩, ?_⟩
      refine fun D nD => lcT_map (fun x => vMul (.int num) x) Wa.o (by rw [List.length_map]; exact small5 (by omega)) (fun i x H' R hx s q' => ?_) nD fun Hb sb hL => ?_
      · obtain ⟨x', mx, _, rfl⟩ := get_int hx
        exact ⟨rfl, _, rfl, _, rfl, num, x', rfl, rfl, mulOk bnum (bdO x' mx), q' _ (Same.refl _)⟩
      · have hL' : Hb D = some (.lst ((timesL num one).map V.int)) := by
          rw [hL, timesL, List.map_map, List.map_map]
          rfl
        refine ⟨D, _, rfl, hL', fun l Hc sc hl => ⟨dI (timesL num one), dp_ints ((ta.same sb).same sc), dp_ints hl, shaped_dI _, _, rfl, iteF ?_⟩⟩
        have Wc := (Wa.same sb).same sc
        refine ⟨_, rfl, 0, pO, one, rfl, by decide, Wc.o, nnO, by omega, by omega, by decide, bdO, fun pd Hd sd td => ?_⟩
        refine ⟨.ref pd, "tuple", true, rfl, .tup td, by rw [tnm_tup td]; decide +kernel, _, rfl, q' Hd (((sa.trans sb).trans sc).trans sd)⟩
    have W := W.same s13
    have S13 := S12.trans (.of s13)
    have G13 := G12.same s13
    clear s13 S12 G12
    -- shown
    refine ⟨_, rfl, _, rfl, pO, pR, one, other, m, most + 1, rfl, W.o, W.r, lO, lR, m3, bO.mono (by omega), bR, by omega, Int.lt_of_le_of_lt BB (by decide), fun v H14 s14 hS => ?_⟩
    have W := W.same s14
    have S14 := S13.trans (.of s14)
    have G14 := G13.same s14
    clear s14 S13 G13
    have nnR := bR.nn
    have llo : one.length = other.length := by omega
    try dsimp only
    refine if_no (fun R q' => ?_) fun H15 s15 => ?_
    · refine ⟨_, rfl, _, rfl, pO, pR, one, other, rfl, W.o, W.r, nnO, nnR, by omega, by omega, llo, fun Ha sa => ⟨v, rfl, rfl, (zle one other).all id, _, rfl, ?_, _, rfl, iteF ?_⟩⟩
      · rcases hS with ⟨rfl, z⟩ | ⟨p, ns, rfl, _, _, _, z, _⟩
        · rw [z]
          rfl
        · rw [z]
          rfl
      · have Wa := W.same sa
        refine ⟨_, rfl, _, rfl, pO, pO, one, one, rfl, Wa.o, Wa.o, nnO, nnO, by omega, by omega, rfl, fun Hb sb => ⟨_, true, rfl, rfl, _, rfl, ?_⟩⟩
        rw [(zle_iff one one rfl).mpr fun i _ => Int.le_refl _]
        exact q' Hb (sa.trans sb)
    have W := W.same s15
    have S15 := S14.trans (.of s15)
    have G15 := G14.same s15
    have hS := hS.same s15
    clear s15 S14 G14
    try dsimp only
    refine if_no (fun R q' => ?_) fun H16 s16 => ?_
    · rcases hS with ⟨rfl, z⟩ | ⟨p, ns, rfl, hL, ll, bn, z, lt⟩
      · exact ⟨_, rfl, rfl, _, rfl, iteF (q' _ (Same.refl _))⟩
      · refine ⟨_, rfl, rfl, _, rfl, iteT ?_⟩
        have bdn : Bd ns := bn.bd (Int.lt_of_le_of_lt (show most + 1 + 1 ≤ 10 ^ 31 by omega) (by decide))
        refine ⟨_, rfl, _, rfl, pO, p, one, ns, rfl, W.o, hL, nnO, bn.nn, by omega, by omega, by omega, bdO, bdn, fun Ha sa => ?_⟩
        refine ⟨_, rfl, _, rfl, pR, p, other, ns, rfl, W.r.same sa, hL.same sa, nnR, bn.nn, by omega, by omega, by omega, bdR, bdn, fun Hb sb => ⟨_, _, rfl, rfl, _, rfl, ?_⟩⟩
        rw [decide_eq_false (by omega)]
        exact q' Hb (sa.trans sb)
    have W := W.same s16
    have S16 := S15.trans (.of s16)
    have G16 := G15.same s16
    have hS := hS.same s16
    clear s16 S15 G15
    try dsimp only
    refine if_no (fun R q' => ?_) fun H17 s17 => ?_
    · rcases hS with ⟨rfl, z⟩ | ⟨p, ns, rfl, hL, ll, bn, z, lt⟩
      · refine ⟨_, rfl, rfl, _, rfl, iteT ?_⟩
        refine ⟨_, rfl, _, rfl, pP, _, rfl, .inl (.inl (.inl W.p)), fun l nl => ⟨pO, l, one, pt, rfl, W.o.same (sameNew nl), upd_same, nnO, nnP, by omega, by omega, by omega, bdO, bdP, fun Ha sa => ?_⟩⟩
        have Wa := (W.same (sameNew nl)).same sa
        refine ⟨_, rfl, _, rfl, pP, _, rfl, .inl (.inl (.inl Wa.p)), fun l2 nl2 => ⟨pR, l2, other, pt, rfl, Wa.r.same (sameNew nl2), upd_same, nnR, nnP, by omega, by omega, by omega, bdR, bdP, fun Hb sb => ⟨_, _, rfl, rfl, _, rfl, ?_⟩⟩⟩
        have := val_mono z llo (by omega) nnP
        rw [decide_eq_false (by omega)]
        exact q' Hb ((((sameNew nl).trans sa).trans (sameNew nl2)).trans sb)
      · exact ⟨_, rfl, rfl, _, rfl, iteF (q' _ (Same.refl _))⟩
    have W := W.same s17
    have S17 := S16.trans (.of s17)
    have G17 := G16.same s17
    clear s17 S16 G16 hS
    try dsimp only
    exact hq12 _ _ H17 g pO pR pP D m k most num one other pt ps fs v rfl W G17 nPg Dg lO m3 k3 bO B0 B1 n0 (by omega) lf bf fun H' s' => q H' (S17.trans s')
end
end K11

set_option Elab.async false
set_option linter.all false
set_option maxRecDepth 100000
set_option maxHeartbeats 4000000
namespace K11
open PySem PySem.Spec PyProof.Rows L2 CK
def sp_law (K : PySem.W.Frag) : Sp := fun vs H Q _ => ∃ (a : Addr) (ns : List Int), vs = [.ref a] ∧ SqL K H a (ns.map V.int) ∧ ns.length ≤ 63 ∧ ∀ H', Q (.bl true) H'
theorem law_end {l : PySem.W.OpenLaw} {w : World} {K : PySem.W.Frag} {mg : Str → Option Value} {fa : Addr} (T : Txt K mg) (hfa : mg "law" = some (.ref fa)) :
    ∃ fd : FuncData, (∀ (s : Shared) (v : Value), BindsTo s fd ⟨[v], []⟩ [("_law_script", v)]) ∧ ∀ base : Heap, K.In base → base.Ns mainGlobals mg → FnOk l.prog w K mg base C8.CX0 9 fa fd ["_law_script"] (sp_law K) := by
  obtain ⟨f, fd, hm, hb, hF⟩ := T.d_law.one
  have e := hfa.symm.trans hm
  cases e
  refine ⟨fd, hb, fun base _ _ => hF sc_law (fun vs H Q E h => ?_) (fun f cdv A outer s H vs Q E hr h => ?_)⟩
  · obtain ⟨_, _, rfl, _⟩ := h; rfl
  · obtain ⟨a, ns, rfl, hS, hl, q⟩ := h
    refine ⟨_, (pss_cons (ps_for PassesOwn.never rfl (pi_range1 (by rfl) T.m_range (pa_cons pe_int pa_nil)) (pg_name (i := 1) sc_law.nd rfl (Or.inl rfl))
    (pss_one (ps_if (pt_not (pt_val (C8.pe_c (c_law_right T) hr (by decide) (by rfl) (pa_cons (C8.pe_c (c_law_generator T) hr (by decide) (by rfl) (pa_cons (pv 0) (pa_cons (pv 1) pa_nil))) pa_nil))))
    (pss_one (ps_ret pe_bl))
    pss_nil)))
    (pss_one (ps_ret pe_bl))), ?_⟩
    refine ⟨3, rfl, by decide, by decide, ?_⟩
    refine for_it walk_range (fun i σ H' => Same H H' ∧ ∃ y1, σ = [some (.ref a), y1]) ⟨Same.refl _, none, rfl⟩ (fun _ _ _ _ _ => True.intro) (fun i x σ H' H'' hi p y => ?_) fun σ H' p => ?_
    · obtain ⟨s0, y1, rfl⟩ := p
      obtain ⟨rfl, rfl⟩ := y
      have i3 : i < 3 := hi
      refine ⟨_, rfl, _, rfl, a, ns, i, by show [V.ref a, V.int (0 + (i : Int))] = _; rw [Int.zero_add], s0.seq hS, by omega, fun g H1 H2 s1 n1 s2 G2 => ?_⟩
      refine ⟨g, rfl, G2.le (by decide), fun H3 s3 => ⟨_, rfl, iteF ⟨fun b o e => ?_, _, rfl⟩⟩⟩
      have e1 := s1 _ _ (s0 b o e)
      exact s3 b o (fun z => by rw [z, n1] at e1; cases e1) (s2 _ _ e1)
    · exact q H'
end K11

open PySem PySem.W PyProof.Rows
set_option maxHeartbeats 0 in
theorem PySem.Challenge.cw_countscribe_k11_forms_holds : PySem.Challenge.rw_countscribe_k11_forms.Holds := by
  w_on; o_law; k_head; (case hw => w_witness2)
  k_fill
  refine L2.walk_of (l := PySem.Challenge.rw_countscribe_k11_forms) (n := 63) (k := 9) (x := "_law_script") (CX := fun _ => C8.CX0) (sp := fun w => K11.sp_law _) rfl (by decide) rfl ⟨rfl, by decide, by decide⟩ (fun w h Y => PySem.W.kIn_of Y) ?F (fun _ _ a ns hl _ hS => ⟨a, ns, rfl, hS, hl, fun _ => rfl⟩) (fun _ _ _ _ _ h => h)
  case F =>
    intro w mg fa h KX G hmg
    refine' CK.with_def KX "is_whole" (K11.topS 9) ["value"] (CK.defF_mk KX G ?a ?l ?c ?k fun _ _ _ _ _ _ us hl => match us, hl with | [_], _ => rfl) fun d_is_whole => ?_
    (case a => k_is); (case l => k_is); (case c => k_is); (case k => k_is)
    refine' CK.with_def KX "is_count" (K11.topS 10) ["value"] (CK.defF_mk KX G ?a ?l ?c ?k fun _ _ _ _ _ _ us hl => match us, hl with | [_], _ => rfl) fun d_is_count => ?_
    (case a => k_is); (case l => k_is); (case c => k_is); (case k => k_is)
    refine' CK.with_def KX "is_within" (K11.topS 11) ["value", "low", "high"] (CK.defF_mk KX G ?a ?l ?c ?k fun _ _ _ _ _ _ us hl => match us, hl with | [_, _, _], _ => rfl) fun d_is_within => ?_
    (case a => k_is); (case l => k_is); (case c => k_is); (case k => k_is)
    refine' CK.with_def KX "is_counts" (K11.topS 12) ["value", "many"] (CK.defF_mk KX G ?a ?l ?c ?k fun _ _ _ _ _ _ us hl => match us, hl with | [_, _], _ => rfl) fun d_is_counts => ?_
    (case a => k_is); (case l => k_is); (case c => k_is); (case k => k_is)
    refine' CK.with_def KX "need_count" (K11.topS 13) ["value"] (CK.defF_mk KX G ?a ?l ?c ?k fun _ _ _ _ _ _ us hl => match us, hl with | [_], _ => rfl) fun d_need_count => ?_
    (case a => k_is); (case l => k_is); (case c => k_is); (case k => k_is)
    refine' CK.with_def KX "need_within" (K11.topS 14) ["value", "low", "high"] (CK.defF_mk KX G ?a ?l ?c ?k fun _ _ _ _ _ _ us hl => match us, hl with | [_, _, _], _ => rfl) fun d_need_within => ?_
    (case a => k_is); (case l => k_is); (case c => k_is); (case k => k_is)
    refine' CK.with_def KX "need_many" (K11.topS 15) ["value"] (CK.defF_mk KX G ?a ?l ?c ?k fun _ _ _ _ _ _ us hl => match us, hl with | [_], _ => rfl) fun d_need_many => ?_
    (case a => k_is); (case l => k_is); (case c => k_is); (case k => k_is)
    refine' CK.with_def KX "need_point" (K11.topS 16) ["value", "many"] (CK.defF_mk KX G ?a ?l ?c ?k fun _ _ _ _ _ _ us hl => match us, hl with | [_, _], _ => rfl) fun d_need_point => ?_
    (case a => k_is); (case l => k_is); (case c => k_is); (case k => k_is)
    refine' CK.with_def KX "is_form_for" (K11.topS 18) ["many", "value"] (CK.defF_mk KX G ?a ?l ?c ?k fun _ _ _ _ _ _ us hl => match us, hl with | [_, _], _ => rfl) fun d_is_form_for => ?_
    (case a => k_is); (case l => k_is); (case c => k_is); (case k => k_is)
    refine' CK.with_def KX "is_some_form" (K11.topS 19) ["value"] (CK.defF_mk KX G ?a ?l ?c ?k fun _ _ _ _ _ _ us hl => match us, hl with | [_], _ => rfl) fun d_is_some_form => ?_
    (case a => k_is); (case l => k_is); (case c => k_is); (case k => k_is)
    refine' CK.with_def KX "need_form" (K11.topS 20) ["value"] (CK.defF_mk KX G ?a ?l ?c ?k fun _ _ _ _ _ _ us hl => match us, hl with | [_], _ => rfl) fun d_need_form => ?_
    (case a => k_is); (case l => k_is); (case c => k_is); (case k => k_is)
    refine' CK.with_def KX "is_forms" (K11.topS 21) ["value", "size", "many"] (CK.defF_mk KX G ?a ?l ?c ?k fun _ _ _ _ _ _ us hl => match us, hl with | [_, _, _], _ => rfl) fun d_is_forms => ?_
    (case a => k_is); (case l => k_is); (case c => k_is); (case k => k_is)
    refine' CK.with_def KX "plain_form" (K11.topS 22) ["number", "many"] (CK.defF_mk KX G ?a ?l ?c ?k fun _ _ _ _ _ _ us hl => match us, hl with | [_, _], _ => rfl) fun d_plain_form => ?_
    (case a => k_is); (case l => k_is); (case c => k_is); (case k => k_is)
    refine' CK.with_def KX "form_value" (K11.topS 23) ["form", "point"] (CK.defF_mk KX G ?a ?l ?c ?k fun _ _ _ _ _ _ us hl => match us, hl with | [_, _], _ => rfl) fun d_form_value => ?_
    (case a => k_is); (case l => k_is); (case c => k_is); (case k => k_is)
    refine' CK.with_def KX "form_sum" (K11.topS 24) ["one", "other"] (CK.defF_mk KX G ?a ?l ?c ?k fun _ _ _ _ _ _ us hl => match us, hl with | [_, _], _ => rfl) fun d_form_sum => ?_
    (case a => k_is); (case l => k_is); (case c => k_is); (case k => k_is)
    refine' CK.with_def KX "form_times" (K11.topS 25) ["number", "form"] (CK.defF_mk KX G ?a ?l ?c ?k fun _ _ _ _ _ _ us hl => match us, hl with | [_, _], _ => rfl) fun d_form_times => ?_
    (case a => k_is); (case l => k_is); (case c => k_is); (case k => k_is)
    refine' CK.with_def KX "form_inserted" (K11.topS 26) ["form", "many", "forms"] (CK.defF_mk KX G ?a ?l ?c ?k fun _ _ _ _ _ _ us hl => match us, hl with | [_, _, _], _ => rfl) fun d_form_inserted => ?_
    (case a => k_is); (case l => k_is); (case c => k_is); (case k => k_is)
    refine' CK.with_def KX "at_most" (K11.topS 27) ["one", "other"] (CK.defF_mk KX G ?a ?l ?c ?k fun _ _ _ _ _ _ us hl => match us, hl with | [_, _], _ => rfl) fun d_at_most => ?_
    (case a => k_is); (case l => k_is); (case c => k_is); (case k => k_is)
    refine' CK.with_def KX "is_form" (K11.topS 29) ["many", "value"] (CK.defF_mk KX G ?a ?l ?c ?k fun _ _ _ _ _ _ us hl => match us, hl with | [_, _], _ => rfl) fun d_is_form => ?_
    (case a => k_is); (case l => k_is); (case c => k_is); (case k => k_is)
    refine' CK.with_def KX "need_two_forms" (K11.topS 30) ["one", "other"] (CK.defF_mk KX G ?a ?l ?c ?k fun _ _ _ _ _ _ us hl => match us, hl with | [_, _], _ => rfl) fun d_need_two_forms => ?_
    (case a => k_is); (case l => k_is); (case c => k_is); (case k => k_is)
    refine' CK.with_def KX "value" (K11.topS 31) ["form", "point"] (CK.defF_mk KX G ?a ?l ?c ?k fun _ _ _ _ _ _ us hl => match us, hl with | [_, _], _ => rfl) fun d_value => ?_
    (case a => k_is); (case l => k_is); (case c => k_is); (case k => k_is)
    refine' CK.with_def KX "added" (K11.topS 32) ["one", "other"] (CK.defF_mk KX G ?a ?l ?c ?k fun _ _ _ _ _ _ us hl => match us, hl with | [_, _], _ => rfl) fun d_added => ?_
    (case a => k_is); (case l => k_is); (case c => k_is); (case k => k_is)
    refine' CK.with_def KX "scaled" (K11.topS 33) ["number", "form"] (CK.defF_mk KX G ?a ?l ?c ?k fun _ _ _ _ _ _ us hl => match us, hl with | [_, _], _ => rfl) fun d_scaled => ?_
    (case a => k_is); (case l => k_is); (case c => k_is); (case k => k_is)
    refine' CK.with_def KX "below" (K11.topS 34) ["one", "other"] (CK.defF_mk KX G ?a ?l ?c ?k fun _ _ _ _ _ _ us hl => match us, hl with | [_, _], _ => rfl) fun d_below => ?_
    (case a => k_is); (case l => k_is); (case c => k_is); (case k => k_is)
    refine' CK.with_def KX "inserted" (K11.topS 35) ["form", "many", "forms"] (CK.defF_mk KX G ?a ?l ?c ?k fun _ _ _ _ _ _ us hl => match us, hl with | [_, _, _], _ => rfl) fun d_inserted => ?_
    (case a => k_is); (case l => k_is); (case c => k_is); (case k => k_is)
    refine' CK.with_def KX "_law_hash" (K11.topS 37) ["_law_seed", "_law_index"] (CK.defF_mk KX G ?a ?l ?c ?k fun _ _ _ _ _ _ us hl => match us, hl with | [_, _], _ => rfl) fun d_law_hash => ?_
    (case a => k_is); (case l => k_is); (case c => k_is); (case k => k_is)
    refine' CK.with_def KX "_law_random" (K11.topS 38) ["_law_generator_here", "_law_bound"] (CK.defF_mk KX G ?a ?l ?c ?k fun _ _ _ _ _ _ us hl => match us, hl with | [_, _], _ => rfl) fun d_law_random => ?_
    (case a => k_is); (case l => k_is); (case c => k_is); (case k => k_is)
    refine' CK.with_def KX "_law_cell" (K11.topS 39) ["_law_script", "_law_index"] (CK.defF_mk KX G ?a ?l ?c ?k fun _ _ _ _ _ _ us hl => match us, hl with | [_, _], _ => rfl) fun d_law_cell => ?_
    (case a => k_is); (case l => k_is); (case c => k_is); (case k => k_is)
    refine' CK.with_def KX "_law_generator" (K11.topS 40) ["_law_script", "_law_index"] (CK.defF_mk KX G ?a ?l ?c ?k fun _ _ _ _ _ _ us hl => match us, hl with | [_, _], _ => rfl) fun d_law_generator => ?_
    (case a => k_is); (case l => k_is); (case c => k_is); (case k => k_is)
    refine' CK.with_def KX "_law_form" (K11.topS 41) ["_law_generator_here", "_law_many", "_law_most"] (CK.defF_mk KX G ?a ?l ?c ?k fun _ _ _ _ _ _ us hl => match us, hl with | [_, _, _], _ => rfl) fun d_law_form => ?_
    (case a => k_is); (case l => k_is); (case c => k_is); (case k => k_is)
    refine' CK.with_def KX "_law_value" (K11.topS 42) ["_law_form_here", "_law_point_here"] (CK.defF_mk KX G ?a ?l ?c ?k fun _ _ _ _ _ _ us hl => match us, hl with | [_, _], _ => rfl) fun d_law_value => ?_
    (case a => k_is); (case l => k_is); (case c => k_is); (case k => k_is)
    refine' CK.with_def KX "_law_point" (K11.topS 43) ["_law_generator_here", "_law_many", "_law_most"] (CK.defF_mk KX G ?a ?l ?c ?k fun _ _ _ _ _ _ us hl => match us, hl with | [_, _, _], _ => rfl) fun d_law_point => ?_
    (case a => k_is); (case l => k_is); (case c => k_is); (case k => k_is)
    refine' CK.with_def KX "_law_yes" (K11.topS 44) ["_law_told", "_law_due"] (CK.defF_mk KX G ?a ?l ?c ?k fun _ _ _ _ _ _ us hl => match us, hl with | [_, _], _ => rfl) fun d_law_yes => ?_
    (case a => k_is); (case l => k_is); (case c => k_is); (case k => k_is)
    refine' CK.with_def KX "_law_point_above" (K11.topS 45) ["_law_one", "_law_other"] (CK.defF_mk KX G ?a ?l ?c ?k fun _ _ _ _ _ _ us hl => match us, hl with | [_, _], _ => rfl) fun d_law_point_above => ?_
    (case a => k_is); (case l => k_is); (case c => k_is); (case k => k_is)
    refine' CK.with_def KX "_law_near" (K11.topS 46) ["_law_generator_here", "_law_form_here", "_law_most"] (CK.defF_mk KX G ?a ?l ?c ?k fun _ _ _ _ _ _ us hl => match us, hl with | [_, _, _], _ => rfl) fun d_law_near => ?_
    (case a => k_is); (case l => k_is); (case c => k_is); (case k => k_is)
    refine' CK.with_def KX "_law_is_whole" (K11.topS 47) ["_law_value_told", "_law_due"] (CK.defF_mk KX G ?a ?l ?c ?k fun _ _ _ _ _ _ us hl => match us, hl with | [_, _], _ => rfl) fun d_law_is_whole => ?_
    (case a => k_is); (case l => k_is); (case c => k_is); (case k => k_is)
    refine' CK.with_def KX "_law_right" (K11.topS 48) ["_law_generator_here"] (CK.defF_mk KX G ?a ?l ?c ?k fun _ _ _ _ _ _ us hl => match us, hl with | [_], _ => rfl) fun d_law_right => ?_
    (case a => k_is); (case l => k_is); (case c => k_is); (case k => k_is)
    refine' CK.with_def KX "law" (K11.topS 49) ["_law_script"] (CK.defF_mk KX G ?a ?l ?c ?k fun _ _ _ _ _ _ us hl => match us, hl with | [_], _ => rfl) fun d_law => ?_
    (case a => k_is); (case l => k_is); (case c => k_is); (case k => k_is)
    have m_all : mg "all" = none := by
      refine' PySem.W.mg_none_of KX G ?z
      (case z => k_is)
    have m_bool : mg "bool" = none := by
      refine' PySem.W.mg_none_of KX G ?z
      (case z => k_is)
    have m_int : mg "int" = none := by
      refine' PySem.W.mg_none_of KX G ?z
      (case z => k_is)
    have m_isinstance : mg "isinstance" = none := by
      refine' PySem.W.mg_none_of KX G ?z
      (case z => k_is)
    have m_len : mg "len" = none := by
      refine' PySem.W.mg_none_of KX G ?z
      (case z => k_is)
    have m_list : mg "list" = none := by
      refine' PySem.W.mg_none_of KX G ?z
      (case z => k_is)
    have m_max : mg "max" = none := by
      refine' PySem.W.mg_none_of KX G ?z
      (case z => k_is)
    have m_range : mg "range" = none := by
      refine' PySem.W.mg_none_of KX G ?z
      (case z => k_is)
    have m_str : mg "str" = none := by
      refine' PySem.W.mg_none_of KX G ?z
      (case z => k_is)
    have m_sum : mg "sum" = none := by
      refine' PySem.W.mg_none_of KX G ?z
      (case z => k_is)
    have m_tuple : mg "tuple" = none := by
      refine' PySem.W.mg_none_of KX G ?z
      (case z => k_is)
    have m_zip : mg "zip" = none := by
      refine' PySem.W.mg_none_of KX G ?z
      (case z => k_is)
    have k_MOST_UNKNOWNS : ∃ u, mg "MOST_UNKNOWNS" = some u ∧ L2.RelV (.int 3) u := by
      refine' ⟨?u, PySem.W.mg_of KX G ?z, ?r⟩
      (case z => k_is)
      exact ⟨_, rfl⟩
    have T : K11.Txt _ mg := ⟨d_is_whole, d_is_count, d_is_within, d_is_counts, d_need_count, d_need_within, d_need_many, d_need_point, d_is_form_for, d_is_some_form, d_need_form, d_is_forms, d_plain_form, d_form_value, d_form_sum, d_form_times, d_form_inserted, d_at_most, d_is_form, d_need_two_forms, d_value, d_added, d_scaled, d_below, d_inserted, d_law_hash, d_law_random, d_law_cell, d_law_generator, d_law_form, d_law_value, d_law_point, d_law_yes, d_law_point_above, d_law_near, d_law_is_whole, d_law_right, d_law, m_all, m_bool, m_int, m_isinstance, m_len, m_list, m_max, m_range, m_str, m_sum, m_tuple, m_zip, k_MOST_UNKNOWNS⟩
    exact K11.law_end T hmg
