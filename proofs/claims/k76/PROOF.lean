import PyProof.Rows.All
import Wide.All
import OpenK.AllK
import Wide.FinOn
import HandS.ForMost
import HandS.Wide
import HandS.WideBits
import HandS.TupAny
import HandS.TupMul
import HandS.IsInst
import HandS.Walk
import HandS.Style
import KE.GoesZip
import KE.GoesMore
import KE.GoesEnum
import HandS.Codes
import HandS.FStrTup
import PyProof.ListMulRoad
import PyProof.FactsAll.tuple_2
import PyProof.ReprLoop
import PyProof.ReprHeadsTuple
import PyProof.StrHeap
import PyProof.CallStr
import HandS.StrMore
import HandS.SortInts
import PyProof.Rows.StrRev
import PyProof.StrOps2
import KE.DataAny
import PyProof.ReprRoads
import HandS.Ends
import PySem.Challenge.RW_countscribe_k76_marks_moved
set_option Elab.async false
set_option linter.all false
set_option maxRecDepth 100000
set_option maxHeartbeats 2000000
/-! rules that the layer lacks: a power of great numbers, zip over a list and a tuple in any mix -/
namespace CK
open PySem PySem.Spec PyProof.Rows L2

section
variable {X : Cx}
theorem op_powB : OpR X (binaryOp .Pow) (rI (fun i j => 0 ≤ j ∧ (Builtin.Int.intBits i : Int) * j ≤ 2 ^ 27) fun i j => .int (i ^ j.toNat)) :=
  opI fun _ _ _ _ _ _ _ c q => pow_int c.1 c.2 q
end

/-- a list, or a tuple -/
inductive Kd | L | T
def SqB (K : PySem.W.Frag) : Kd → Hp → Addr → List V → Prop
  | .L, H, a, xs => SqL K H a xs
  | .T, H, a, xs => SqT K H a xs
def HasB : Kd → Heap → Addr → Array Value → Prop
  | .L, h, a, xs => h.IsList a xs
  | .T, h, a, xs => h.IsTuple a xs
def IterB : Kd → Heap → Addr → Addr → Nat → Prop
  | .L, h, it, a, i => h.IsListIter it a i
  | .T, h, it, a, i => h.IsTupleIter it a i
def objB : Kd → Addr → Obj
  | .L, a => { cls := .type "list_iterator", data := .fields #[.ref a, .int 0 0] }
  | .T, a => { cls := .type "tuple_iterator", data := .fields #[.ref a, .int 0 0] }
theorem drawsB (k : Kd) {prog : Program} {w : World} {A : Around} (hh : A.handled = none) (it t : Addr) (ne : t ≠ it) (zs : Array Value) :
    Draws prog w A it [it, t] zs.size (fun i v => zs[i]? = some v) (fun i h => IterB k h it t i ∧ HasB k h t zs) := by
  cases k with
  | L => exact Draws.list hh it t ne zs
  | T => exact Draws.tuple hh it t ne zs
theorem beginsB (k : Kd) (t : Addr) (zs : Array Value) : Begins (.ref t) (objB k t) fun h => HasB k h t zs := by
  cases k with
  | L => exact begins_list t zs
  | T => exact begins_tuple t zs
theorem IterB.at {k : Kd} {h h' : Heap} {it a : Addr} {i : Nat} (x : IterB k h it a i) (e : ∀ o, h.get? it = some o → h'.get? it = some o) : IterB k h' it a i := by
  cases k with
  | L => exact Heap.IsListIter.at x e
  | T => exact Heap.IsTupleIter.at x e
theorem IterB.there {k : Kd} {h : Heap} {it a : Addr} {i : Nat} (x : IterB k h it a i) : ∃ o, h.get? it = some o ∧ ∀ v, o.data ≠ .cell v := by
  cases k with
  | L =>
    obtain ⟨o, e, _, d⟩ := x
    exact ⟨o, e, fun v z => by rw [d] at z; cases z⟩
  | T =>
    obtain ⟨o, e, _, d⟩ := x
    exact ⟨o, e, fun v z => by rw [d] at z; cases z⟩
theorem IterB.new {k : Kd} {h : Heap} {it a : Addr} (e : h.get? it = some (objB k a)) : IterB k h it a 0 := by
  cases k with
  | L => exact ⟨_, e, rfl, rfl⟩
  | T => exact ⟨_, e, rfl, rfl⟩
theorem SqB.get {X : Cx} {pins : List (Addr × Obj)} {σ : L2.St} {H : Hp} {s : Shared} {k : Kd} {a : Addr} {xs : List V} (I : Inv X pins σ H s) (h : SqB X.K k H a xs) :
    ∃ zs : List Value, Vals xs zs ∧ HasB k s.heap a zs.toArray ∧ a < s.heap.objs.size := by
  cases k with
  | L =>
    obtain ⟨zs, r, p, _⟩ := I.list h
    exact ⟨zs, r, p.isList, p.lt⟩
  | T =>
    obtain ⟨zs, r, p, _⟩ := I.tuple h
    exact ⟨zs, r, p, p.lt⟩
theorem SqB.inj {X : Cx} {pins : List (Addr × Obj)} {σ : L2.St} {H : Hp} {s : Shared} {k : Kd} {a : Addr} {xs ys : List V} (I : Inv X pins σ H s) (h : SqB X.K k H a xs) (h' : SqB X.K k H a ys) : xs = ys := by
  cases k with
  | L => exact I.list_inj h h'
  | T => exact I.tuple_inj h h'

/-- both as they stand at each turn, the items in new pairs -/
def ItB (K : PySem.W.Frag) (k k' : Kd) (a b : Addr) : It :=
  ⟨fun i H => ∃ (xs ys : List V) (x y : V), SqB K k H a xs ∧ SqB K k' H b ys ∧ xs[i]? = some x ∧ ys[i]? = some y,
    fun i H v H' => ∃ T x y, v = .ref T ∧ H T = none ∧ H' = upd H T (.tup [x, y]) ∧ (∀ xs, SqB K k H a xs → xs[i]? = some x) ∧ ∀ ys, SqB K k' H b ys → ys[i]? = some y,
    fun i H => ∃ xs ys : List V, SqB K k H a xs ∧ SqB K k' H b ys ∧ i ≤ xs.length ∧ i ≤ ys.length ∧ (i = xs.length ∨ i = ys.length)⟩
theorem five {z TI TO i1 i2 c : Addr} (h : c ∈ [z, TI, TO, i1, i2]) : c = z ∨ c = TI ∨ c = TO ∨ c = i1 ∨ c = i2 := by simpa using h
theorem turnB {P : Program} {w : World} {K : PySem.W.Frag} {elts : List Expr} {kk : Nat} {tp : Pos} {k k' : Kd} {a b z TI TO i1 i2 : Addr} (S : ZipSep2 z TI TO i1 i2 [i1, a] [i2, b]) (na : a ≠ i1) (nb : b ≠ i2) :
    Turn P w K (.Tuple elts kk tp) (ItB K k k' a b) [z, TI, TO, i1, i2] z
      (fun i h => IsZip h z TI TO .none ∧ IsTupOf2 h TI (.ref i1) (.ref i2) ∧ (∃ x y, IsTupOf2 h TO x y) ∧ IterB k h i1 a i ∧ IterB k' h i2 b i) where
  mem := by simp
  obj := fun i h st c hc => by
    obtain ⟨hz, hI, ⟨x, y, hO⟩, h1, h2⟩ := st
    rcases five hc with q | q | q | q | q <;> subst q
    · exact ⟨_, hz, fun v q => nomatch q⟩
    · exact ⟨_, hI, fun v q => nomatch q⟩
    · exact ⟨_, hO, fun v q => nomatch q⟩
    · exact h1.there
    · exact h2.there
  keep := fun i h h' st q => by
    obtain ⟨hz, hI, ⟨x, y, hO⟩, h1, h2⟩ := st
    exact ⟨q z (by simp) _ hz, q TI (by simp) _ hI, ⟨x, y, q TO (by simp) _ hO⟩, h1.at (q i1 (by simp)), h2.at (q i2 (by simp))⟩
  item := by
    intro X hP hw hK hc i pins s σ H E I hf st hg
    subst hP hw hK
    obtain ⟨hz, hI, ⟨x0, y0, hO⟩, h1, h2⟩ := st
    obtain ⟨xs, ys, x, y, qx, qy, hx, hy⟩ := hg
    obtain ⟨zs, r1, p1, la⟩ := SqB.get I qx
    obtain ⟨zs', r2, p2, lb⟩ := SqB.get I qy
    obtain ⟨u, hu, ru⟩ := r1.get hx
    obtain ⟨u2, hu2, ru2⟩ := r2.get hy
    have z0 : z < s.heap.objs.size := Heap.lt_size hz
    have l1 : i < zs.toArray.size := by
      obtain ⟨q, _⟩ := List.getElem?_eq_some_iff.mp hu
      simpa using q
    have l2 : i < zs'.toArray.size := by
      obtain ⟨q, _⟩ := List.getElem?_eq_some_iff.mp hu2
      simpa using q
    have hh : X.A.in1.handled = none := I.ok.hd hc
    refine wpAny_pyNext_zipD2_item S (drawsB k hh i1 a na zs.toArray) (drawsB k' hh i2 b nb zs'.toArray) hz hI hO ⟨h1, p1⟩ ⟨h2, p2⟩ l1 l2 fun x1 x2 h' tk e1 e2 z' TO' t1 t2 hT hsz hk => ?_
    have e1' : x1 = u := by
      have q : zs[i]? = some x1 := by simpa using e1
      exact Option.some.inj (q.symm.trans hu)
    have e2' : x2 = u2 := by
      have q : zs'[i]? = some x2 := by simpa using e2
      exact Option.some.inj (q.symm.trans hu2)
    subst e1' e2'
    refine ⟨_, rfl, wpAny_letOwnedTupleGo_zip (s := { s with heap := h', toks := tk }) z' fun h'' z'' sb => ?_⟩
    have hT2 : h''.get? s.heap.objs.size = some { cls := .type "tuple", data := .seq #[x1, x2] } := (sb.2 _ (Nat.ne_of_gt z0)).trans hT
    have new : ObjOk X.prog X.w (upd H s.heap.objs.size (.tup [x, y])) h'' s.heap.objs.size (.tup [x, y]) :=
      ⟨by show 2 ≤ sizeLine; decide, [x1, x2], .cons ru (.cons ru2 .nil), ⟨_, hT2, rfl, _, rfl⟩⟩
    have I1 : Inv X pins σ (upd H s.heap.objs.size (.tup [x, y])) { s with heap := h'', toks := tk } :=
      I.turnedNew (ch := [z, TI, TO, i1, i2]) (fun c o hb q => by
        have n : c ≠ z ∧ c ≠ TI ∧ c ≠ TO ∧ c ≠ i1 ∧ c ≠ i2 := by simpa using hb
        exact (sb.2 c n.1).trans (hk c o n.1 n.2.2.1 n.2.2.2.1 n.2.2.2.2 q)) hf (Nat.le_refl _) new
    refine ⟨.ref s.heap.objs.size, _, I1, rfl, ⟨_, x, y, rfl, I.hok.fresh (Nat.le_refl _), rfl, fun l hl => by rw [SqB.inj I hl qx]; exact hx, fun l hl => by rw [SqB.inj I hl qy]; exact hy⟩, ⟨z'', ?_, ⟨x1, x2, ?_⟩, ?_, ?_⟩, fun c hcm => ?_⟩
    · exact (sb.2 _ S.TIz).trans (hk _ _ S.TIz S.TITO S.TIi1 S.TIi2 hI)
    · exact (sb.2 _ S.TOz).trans TO'
    · exact t1.1.at fun o q => (sb.2 _ S.zi1.symm).trans q
    · exact t2.1.at fun o q => (sb.2 _ S.zi2.symm).trans q
    · have lt : c < s.heap.objs.size := by
        rcases five hcm with q | q | q | q | q <;> subst q
        · exact z0
        · exact Heap.lt_size hI
        · exact Heap.lt_size hO
        · obtain ⟨_, e, _⟩ := h1.there
          exact Heap.lt_size e
        · obtain ⟨_, e, _⟩ := h2.there
          exact Heap.lt_size e
      rw [upd_ne (Nat.ne_of_lt lt)]
      exact (hf c hcm).1
  done := by
    intro X hP hw hK hc i pins s σ H E I hf st hg
    subst hP hw hK
    obtain ⟨hz, hI, ⟨x0, y0, hO⟩, h1, h2⟩ := st
    obtain ⟨xs, ys, qx, qy, m1, m2, hend⟩ := hg
    obtain ⟨zs, r1, p1, la⟩ := SqB.get I qx
    obtain ⟨zs', r2, p2, lb⟩ := SqB.get I qy
    have e1 : zs.toArray.size = xs.length := by rw [List.size_toArray]; exact r1.length.symm
    have e2 : zs'.toArray.size = ys.length := by rw [List.size_toArray]; exact r2.length.symm
    have hh : X.A.in1.handled = none := I.ok.hd hc
    exact wpAny_pyNext_zipD2_end S (drawsB k hh i1 a na zs.toArray) (drawsB k' hh i2 b nb zs'.toArray) hz hI hO ⟨h1, p1⟩ ⟨h2, p2⟩ (by omega) (by omega) (by omega) fun h' tk hk =>
      ⟨rfl, I.turnedL (ch := [z, TI, TO, i1, i2]) (fun c o hb q => by
        have n : c ≠ z ∧ c ≠ TI ∧ c ≠ TO ∧ c ≠ i1 ∧ c ≠ i2 := by simpa using hb
        exact hk c o n.1 n.2.2.1 n.2.2.2.1 n.2.2.2.2 q) hf⟩
  self := fun A i s Q E st h => wpAny_pyIter_zip st.1 h

def iZipB (K : PySem.W.Frag) (ta : TA) : TI := fun σ H R => ta σ H fun vs H1 => ∃ (k k' : Kd) (a b : Addr) (xs ys : List V), vs = [.ref a, .ref b] ∧ SqB K k H1 a xs ∧ SqB K k' H1 b ys ∧ R (ItB K k k' a b) H1
theorem pi_zipB {X : Cx} {K : PySem.W.Frag} {e e2 : Expr} {ta : TA} {p pos tp : Pos} {elts : List Expr} {kk : Nat} (hK : X.K = K) (hg : Gl X "zip") (hm : X.mg "zip" = none) (ha : PA X [e, e2] ta)
    (hs : starEach [e, e2] X.env = (false, eval e X.env) :: starEach [e2] X.env := by rfl) (hpl : (backTo pos (starEach [e2] X.env)).any (·.1) = false := by rfl) :
    PI X (.Tuple elts kk tp) (.Call (.Name "zip" p) [e, e2] [] pos) (iZipB K ta) := by
  subst hK
  refine ⟨fun pins s σ H R I h => Call_ (ld_blt I hg hm PyProof.Rows.boot_zip (callWith_type1 (thn (ha.run pos pins s σ H _ I h) fun us s1 q => ?_) hs hpl))⟩
  obtain ⟨vs, H1, I1, r1, k, k', a, b, xs, ys, rfl, qx, qy, q⟩ := q
  cases r1 with
  | cons r rr =>
  cases rr with
  | cons r' rr =>
  cases rr
  cases r
  cases r'
  obtain ⟨zs, _, p1, la⟩ := SqB.get I1 qx
  obtain ⟨zs', _, p2, lb⟩ := SqB.get I1 qy
  refine zip_begins2 (beginsB k a zs.toArray) (beginsB k' b zs'.toArray) p1 p2 fun h' hz hI hO o1 o2 hsz hk => wpAny_pyIter_zip hz ?_
  have S := zip_sep2 (N := s1.heap.objs.size) (fp1 := [a]) (fp2 := [b]) (fun c hc => by rw [List.mem_singleton.mp hc]; exact la) (fun c hc => by rw [List.mem_singleton.mp hc]; exact lb)
  refine ⟨s1.heap.objs.size + 4, _, _, _, H1, rfl, I1.kept (t' := s1.toks) hk, turnB S (Nat.ne_of_lt la) (Nat.ne_of_lt (Nat.lt_succ_of_lt lb)), ⟨hz, hI, ⟨_, _, hO⟩, .new o1, .new o2⟩, fun c hc => ?_, q⟩
  have le : s1.heap.objs.size ≤ c := by
    rcases five hc with z | z | z | z | z <;> subst z <;> first | exact Nat.le_add_right _ _ | exact Nat.le_refl _
  exact I1.fpOk le (I1.hok.fresh le)
theorem walkB {K : PySem.W.Frag} {k k' : Kd} {a b : Addr} {xs ys : List V} (hl : xs.length = ys.length) :
    Walk (ItB K k k' a b) xs.length (fun H => SqB K k H a xs ∧ SqB K k' H b ys) (YPair (fun i => xs[i]?) (fun i => ys[i]?)) := by
  refine ⟨fun i H hi q => ?_, fun H q => ⟨xs, ys, q.1, q.2, Nat.le_refl _, Nat.le_of_eq hl, .inl rfl⟩, fun i H v H' _ q y => ?_⟩
  · have h2 : i < ys.length := by omega
    exact ⟨xs, ys, xs[i], ys[i], q.1, q.2, by simp [hi], by simp [h2]⟩
  · obtain ⟨T, x, z, h1, h2, h3, h4, h5⟩ := y
    exact ⟨T, x, z, h1, h2, h3, h4 xs q.1, h5 ys q.2⟩
end CK

set_option Elab.async false
set_option linter.all false
set_option maxRecDepth 100000
set_option maxHeartbeats 4000000
namespace CK
open PySem PySem.Spec PyProof.Rows L2
theorem mulFill : fillsNumberSlot (.type "tuple") "mul" = pure false :=
  PySem.fillsNumberSlot_seq (r := some (.builtin "tuple.__rmul__")) (id := "tuple.__mul__") PySem.F.slot_tuple_mul.lookup (by decide +kernel)
    PySem.F.slot_tuple_rmul.lookup (by decide +kernel)
theorem mulSeq : seqRepeat? (.type "tuple") = pure (some (.builtin "tuple.__mul__")) := by
  unfold seqRepeat?
  rw [PySem.seqSlot_of (name := "__mul__") (id := "tuple.__mul__") (T := "tuple") PySem.F.slot_tuple_mul.lookup (by decide +kernel),
    PySem.seqSlot_of (name := "__rmul__") (id := "tuple.__rmul__") (T := "tuple") PySem.F.slot_tuple_rmul.lookup (by decide +kernel)]
  rfl
theorem rmulNo (a : Int) (t : Tok) (l : Addr) (zs : Array Value) (n : Nat) (dd : Option Addr) (sl : Array (Option Value)) :
    Meets (Builtin.«int.__rmul__» ⟨[.int a t, .ref l], []⟩) (fun _ R s =>
      s.heap.get? l = some { cls := .type "tuple", dict := dd, data := .seq zs n, slots := sl } ∧ R (.ok (.ret Value.notImplemented)) s) := by
  refine Meets.of_wp fun prog w A R s h => ?_
  obtain ⟨hq, g, d, tk, o2⟩ := s
  obtain ⟨hl, h⟩ := h
  wp_walk using wpAny_loadPart' hl
  exact ⟨_, rfl, h⟩
/-- one item, no times: a new empty tuple -/
theorem mul0 (l : Addr) (v : Value) (n : Nat) (dd : Option Addr) (sl : Array (Option Value)) (u : Tok) :
    Meets (Builtin.«tuple.__mul__» ⟨[.ref l, .int 0 u], []⟩) (fun _ R s =>
      s.heap.get? l = some { cls := .type "tuple", dict := dd, data := .seq #[v] n, slots := sl } ∧
      R (.ok (.ret (Value.ref s.heap.objs.size))) { s with heap := s.heap.push { cls := Value.type "tuple", data := Data.seq #[] } }) := by
  refine Meets.of_wp fun prog w A R s h => ?_
  obtain ⟨hq, g, d, tk, o2⟩ := s
  obtain ⟨hl, h⟩ := h
  have f1 := AutoSeq1.idx_int
  wp_walk using wpAny_loadPart' hl
  exact ⟨_, rfl, h⟩
/-- one item, once: the tuple itself -/
theorem mul1 (l : Addr) (v : Value) (n : Nat) (dd : Option Addr) (sl : Array (Option Value)) (u : Tok) :
    Meets (Builtin.«tuple.__mul__» ⟨[.ref l, .int 1 u], []⟩) (fun _ R s =>
      s.heap.get? l = some { cls := .type "tuple", dict := dd, data := .seq #[v] n, slots := sl } ∧ R (.ok (.ret (Value.ref l))) s) := by
  refine Meets.of_wp fun prog w A R s h => ?_
  obtain ⟨hq, g, d, tk, o2⟩ := s
  obtain ⟨hl, h⟩ := h
  have f1 := AutoSeq1.idx_int
  have f2 : (⟨hq, g, d, tk, o2⟩ : Shared).TypeIs (.ref l) "tuple" := ⟨_, hl, rfl⟩
  wp_walk using wpAny_loadPart' hl, wpAny_typeOf f2
  exact ⟨_, rfl, h⟩
section
variable {X : Cx}
theorem sameNew {H : Hp} {p : Addr} {o : HO} (h : H p = none) : Same H (upd H p o) := fun b z e => by
  rw [upd_ne (ne_of_none e h)]
  exact e
/-- one item, k times: 0 or 1 -/
def rRep01 : R2 := fun x y H Q => ∃ (l : Addr) (k : Int) (v : V), x = .ref l ∧ y = .int k ∧ H l = some (.tup [v]) ∧ (k = 0 ∨ k = 1) ∧
  ∀ p H', Same H H' → H' p = some (.tup (List.replicate k.toNat v)) → Q (.ref p) H'
theorem op_rep01 : OpR X (binaryOp .Mult) rRep01 := by
  intro pins s σ H x y xv yv Q I rx ry h
  obtain ⟨l, k, v, rfl, rfl, hl, hk, q⟩ := h
  cases rx
  obtain ⟨t, rfl⟩ := ry
  obtain ⟨zs, r, ⟨⟨cl, dd, da, sl⟩, ho, hc, n, hd⟩, hs⟩ := I.tuple (.inl (.inl hl) : SqT X.K H l [v])
  simp only at hc hd
  subst hc hd
  cases r with
  | cons r1 r2 =>
  cases r2
  rename_i u
  rcases hk with e | e <;> subst e
  · refine wpAny_binaryOp_repeat_ref (T := "tuple") (U := "int") (by decide) ⟨_, ho, rfl⟩ (fun s' => typeIs_int s' 0 t) mulFill F.fills_int_mul F.slot_int_rmul mulSeq F.slot_int_index.lookup
      (call_meets F.slot_int_rmul (typeIs_int s 0 t) F.entry_int_rmul (F.args_int_rmul_2 _ _) (rmulNo 0 t l _ n dd sl)
        ⟨ho, rfl, ⟨_, ho, rfl⟩, call_meets F.slot_tuple_mul ⟨_, ho, rfl⟩ F.entry_tuple_mul (F.args_tuple_mul_2 _ _) (mul0 l _ n dd sl t) ⟨ho, ?_⟩⟩)
    have hn : H s.heap.objs.size = none := I.hok.fresh (Nat.le_refl _)
    refine ⟨.ref s.heap.objs.size, _, I.laid (t' := s.toks) (o := .tup []) (fun b ob q => Heap.get?_push_of_some _ q) (Nat.le_refl _) ?_, rfl, q _ _ (sameNew hn) upd_same⟩
    exact ⟨Nat.zero_le _, [], .nil, IsTup.new _ _⟩
  · exact wpAny_binaryOp_repeat_ref (T := "tuple") (U := "int") (by decide) ⟨_, ho, rfl⟩ (fun s' => typeIs_int s' 1 t) mulFill F.fills_int_mul F.slot_int_rmul mulSeq F.slot_int_index.lookup
      (call_meets F.slot_int_rmul (typeIs_int s 1 t) F.entry_int_rmul (F.args_int_rmul_2 _ _) (rmulNo 1 t l _ n dd sl)
        ⟨ho, rfl, ⟨_, ho, rfl⟩, call_meets F.slot_tuple_mul ⟨_, ho, rfl⟩ F.entry_tuple_mul (F.args_tuple_mul_2 _ _) (mul1 l _ n dd sl t)
          ⟨ho, ⟨.ref l, H, I, rfl, q l H (Same.refl H) hl⟩⟩⟩)
/-! ### str(tuple of whole numbers): some text -/
theorem reprInts {prog : Program} {w : World} : ∀ {ns : List Int} {zs : List Value}, Vals (ns.map V.int) zs → (∀ n ∈ ns, n.natAbs.log2 < 1920) → ReprAll prog w zs (ns.map fun n => (toString n : Str))
  | [], _, r, _ => by
    cases r
    exact .nil
  | n :: l, _, r, h => by
    cases r with
    | cons r1 r2 =>
    obtain ⟨t, rfl⟩ := r1
    exact .cons (ReprIs.int t (h n List.mem_cons_self)) (reprInts r2 fun z hz => h z (List.mem_cons_of_mem _ hz))
end
end CK
namespace CK
open PySem PySem.Spec PyProof.Rows L2
section
variable {X : Cx}
/-- one item, k times -/
def rRepOne (K : PySem.W.Frag) : R2 := fun x y H Q => ∃ (l : Addr) (k : Int) (v : V), x = .ref l ∧ y = .int k ∧ H l = some (.tup [v]) ∧ 0 ≤ k ∧ k ≤ 1000 ∧
  ∀ p H', Same H H' → H' p = some (.tup (List.replicate k.toNat v)) → Q (.ref p) H'
theorem flat_rep {α : Type} (v : α) : ∀ n : Nat, (List.replicate n [v]).flatten = List.replicate n v
  | 0 => rfl
  | n + 1 => by rw [List.replicate_succ, List.flatten_cons, flat_rep v n, List.replicate_succ]; rfl
theorem op_repOne : OpR X (binaryOp .Mult) (rRepOne X.K) := by
  intro pins s σ H x y xv yv Q I rx ry h
  obtain ⟨l, k, v, rfl, rfl, hl, h0, h1, q⟩ := h
  by_cases hk : k = 0 ∨ k = 1
  · exact op_rep01 pins s σ H _ _ xv yv Q I rx ry ⟨l, k, v, rfl, rfl, hl, hk, q⟩
  · refine op_repT pins s σ H _ _ xv yv Q I rx ry ⟨l, k, [v], rfl, rfl, .inl (.inl hl), List.cons_ne_nil _ _, by omega, h1, by show 1 ≤ 1000; omega, fun p hp => q p _ (sameNew hp) ?_⟩
    rw [upd_same, flat_rep]
/-- str of a tuple of whole numbers: some text -/
theorem call_str_tup {k : Nat} (hr : Room k X.A) : CallR X (.type "str") (fun xs H Q => ∃ (a : Addr) (ns : List Int), xs = [.ref a] ∧ H a = some (.tup (ns.map V.int)) ∧ ns.length ≤ 100 ∧ (∀ n ∈ ns, n.natAbs.log2 < 1920) ∧ ∀ m : Str, Q (.str m) H) := by
  intro pins s σ H xs us Q I r h
  obtain ⟨a, ns, rfl, ha, hl, hn, q⟩ := h
  obtain ⟨u, rfl, rx⟩ := vals1 r
  cases rx
  obtain ⟨zs, rv, ⟨o, ho, hc, n, hd⟩, hz⟩ := I.tuple (.inl (.inl ha) : SqT X.K H a _)
  have hu := hr.units
  have hT : ReprAll X.prog X.w zs.toArray.toList (ns.map fun n => (toString n : Str)) := by simpa using reprInts rv hn
  have hp : ∀ l : List Int, (∀ n ∈ l, n.natAbs.log2 < 1920) → piled (l.map fun n => (toString n : Str)) ≤ l.length * 1923 := by
    intro l
    induction l with
    | nil => intro _; exact Nat.le_refl _
    | cons z l ih =>
      intro h
      have a1 := int_text_length_le (a := z) (k := 1920) (by omega) (h z List.mem_cons_self)
      have a2 := ih fun n hn => h n (List.mem_cons_of_mem _ hn)
      rw [List.map_cons, piled_cons, List.length_cons]
      have a3 : ((toString z : Str)).length = (toString z).length := PySem.ofString_length _
      omega
  have h1 := fmt_text (ns.map fun n => (toString n : Str))
  have h2 := hp ns hn
  have h3 : ns.length * 1923 ≤ 192300 := by omega
  have h4 : (tupleText (ns.map fun n => (toString n : Str))).length ≤ sizeLine := by
    rw [sizeLine_eq]
    omega
  refine callType_new F.called_str (by decide) (F.typeCall_str_1 _) (F.newCall_str_1 _) (fun obj => F.args_object_init_2 obj _) F.entry_str_new
    (meets_str_new (S := fun A' R s' => A'.units + 4 < cLine ∧ s'.heap.get? a = some o ∧ ∀ (m : Str) (u tk : Tok), R (.ok (.ret (.str m u))) { s' with toks := tk }) fun prog w A' R s' h =>
      wpAny_strOf_slot rfl (by show A'.units + 1 + 1 < cLine; have := h.1; omega) ⟨o, h.2.1, hc⟩ F.slot_tuple_str F.slot_tuple_repr
        (fmt_tuple_repr h.2.1 hc hd ?_ h4 fun m u tk _ => ⟨m, u, rfl, h.2.2 m u tk⟩))
    ⟨by show X.A.units + 1 + 4 < cLine; omega, ho, fun m u tk => ⟨typeIs_str _ _ _, .str m, H, I.tok _, ⟨u, rfl⟩, q m⟩⟩
  exact by simpa using reprInts rv hn
end
end CK

set_option Elab.async false
set_option linter.all false
set_option maxRecDepth 100000
set_option maxHeartbeats 2000000
namespace CK
open PySem PySem.Spec PyProof.Rows L2
/-! ### a def as it stands behind the top, and its promise by its body -/
structure DefF (K : PySem.W.Frag) (mg : Str → Option Value) (x : Str) (st : Stmt) (ps : List Str) : Prop where
  ex : ∃ (f : Addr) (fd : FuncData), C8.Def K mg x st f fd ∧ ∀ us : List Value, us.length = ps.length → bindArgs fd ⟨us, []⟩ = pure (ps.zip us)
theorem defF_mk {K : PySem.W.Frag} {h : Heap} {mg : Str → Option Value} {x : Str} {st : Stmt} {ps : List Str} {f : Addr} {od an : Option Addr} {oc kV dc pm cd ct : Value} {sl : Array (Option Value)}
    (X : K.In h) (G : h.Ns mainGlobals mg) (a : PySem.W.nsIn K mainGlobals x = some (some (.ref f)))
    (l : K.lookup f = some ⟨oc, od, .func (PySem.W.fnOf x x (C8.fnArgs st) (C8.fnBody st) (C8.fnScope st) .none kV dc pm an cd ct), sl⟩)
    (c : PySem.W.codeIn K cd x = true) (k : PySem.W.keepIn K (.ref f) = true)
    (hb : ∀ (kV doc pm : Value) (an : Option Addr) (cdv ct : Value) (us : List Value), us.length = ps.length →
      bindArgs (PySem.W.fnOf x x (C8.fnArgs st) (C8.fnBody st) (C8.fnScope st) .none kV doc pm an cdv ct) ⟨us, []⟩ = pure (ps.zip us)) : DefF K mg x st ps :=
  ⟨f, _, ⟨⟨oc, od, .none, kV, dc, pm, an, cd, ct, sl, rfl, l, c⟩, PySem.W.mg_of X G a, k⟩, hb kV dc pm an cd ct⟩
theorem calF {P : Program} {w : World} {K : PySem.W.Frag} {mg : Str → Option Value} {base : Heap} {x : Str} {st : Stmt} {N ps : List Str} {k : Nat} {sp : Sp} (D : DefF K mg x st ps) (S : FnScope N ps (C8.fnScope st))
    (len : ∀ vs H Q E, sp vs H Q E → vs.length = ps.length)
    (hbody : ∀ (f : Addr) (cdv : Value) (A : Around) (outer : List Env) (s : Shared) (H : Hp) (vs : List V) (Q : VK) (E : XK), Room k (A.deeper (envOfC x (C8.fnScope st) s.heap.objs.size f cdv)) → sp vs H Q E →
      ∃ t, PSs (cxOf C8.CX0 P w K mg base N x (C8.fnScope st) f cdv A outer s H E).nox (C8.fnBody st) t ∧ t { nx := fun _ H' => Q .non H', rt := Q } (start N vs) H) : C8.Cal P w K mg base (k + 1) x sp [] := by
  obtain ⟨f, fd, F, b⟩ := D.ex
  exact C8.cal0 F (.all b) .nil S len (hbody f)
/-- a def of one parameter as it stands, for the law's end -/
theorem DefF.one {K : PySem.W.Frag} {mg : Str → Option Value} {x p : Str} {st : Stmt} (D : DefF K mg x st [p]) : ∃ (f : Addr) (fd : FuncData), mg x = some (.ref f) ∧ (∀ (s : Shared) (v : Value), BindsTo s fd ⟨[v], []⟩ [(p, v)]) ∧
    ∀ {P : Program} {w : World} {base : Heap} {N : List Str} {k : Nat} {sp : Sp} (S : FnScope N [p] (C8.fnScope st)) (len : ∀ vs H Q E, sp vs H Q E → vs.length = 1)
      (hbody : ∀ (f : Addr) (cdv : Value) (A : Around) (outer : List Env) (s : Shared) (H : Hp) (vs : List V) (Q : VK) (E : XK), Room k (A.deeper (envOfC x (C8.fnScope st) s.heap.objs.size f cdv)) → sp vs H Q E →
        ∃ t, PSs (cxOf C8.CX0 P w K mg base N x (C8.fnScope st) f cdv A outer s H E).nox (C8.fnBody st) t ∧ t { nx := fun _ H' => Q .non H', rt := Q } (start N vs) H), FnOk P w K mg base C8.CX0 (k + 1) f fd [p] sp := by
  obtain ⟨f, fd, F, b⟩ := D.ex
  exact ⟨f, fd, F.mgf, fun s v => .of_eq (b [v] rfl), fun S len hbody => C8.fn0 F.fn S len (hbody f)⟩

theorem with_def {K : PySem.W.Frag} {h : Heap} {mg : Str → Option Value} (_ : K.In h) (x : Str) (st : Stmt) (ps : List Str) {R : Prop} (d : DefF K mg x st ps) (r : DefF K mg x st ps → R) : R := r d
/-! ### heaps -/
/-- all that was tracked is as it was, but for g -/
def SameX (g : Addr) (H H' : Hp) : Prop := ∀ b o, b ≠ g → H b = some o → H' b = some o
theorem SameX.refl (g : Addr) (H : Hp) : SameX g H H := fun _ _ _ h => h
theorem SameX.trans {g : Addr} {H H1 H2 : Hp} (a : SameX g H H1) (b : SameX g H1 H2) : SameX g H H2 := fun c o n h => b c o n (a c o n h)
theorem SameX.of {g : Addr} {H H1 : Hp} (a : Same H H1) : SameX g H H1 := fun c o _ h => a c o h
theorem sameX_upd {g : Addr} {H : Hp} {o : HO} : SameX g H (upd H g o) := fun b z n e => by
  rw [upd_ne n]
  exact e
theorem same_upd2 {H H1 : Hp} {D : Addr} {o : HO} (hD : H D = none) (s : Same H H1) : Same H (upd H1 D o) := fun b z e => by
  rw [upd_ne (ne_of_none e hD)]
  exact s b z e

/-! ### what a value is -/
/-- the built-in type of a value that is known -/
def tnm (H : Hp) : V → String
  | .non => "NoneType"
  | .bl _ => "bool"
  | .int _ => "int"
  | .str _ => "str"
  | .ref a => match H a with
    | some (.lst _) => "list"
    | some (.tup _) => "tuple"
    | _ => "?"
  | _ => "?"
theorem tnm_tup {H : Hp} {a : Addr} {xs : List V} (h : H a = some (.tup xs)) : tnm H (.ref a) = "tuple" := by
  simp only [tnm, h]
theorem tnm_lst {H : Hp} {a : Addr} {xs : List V} (h : H a = some (.lst xs)) : tnm H (.ref a) = "list" := by
  simp only [tnm, h]
/-- a value whose type is known -/
inductive Kn (H : Hp) : V → Prop
  | non : Kn H .non
  | bl (b : Bool) : Kn H (.bl b)
  | int (i : Int) : Kn H (.int i)
  | str (x : Str) : Kn H (.str x)
  | lst {a : Addr} {xs : List V} (e : H a = some (.lst xs)) : Kn H (.ref a)
  | tup {a : Addr} {xs : List V} (e : H a = some (.tup xs)) : Kn H (.ref a)
theorem Kn.same {H H' : Hp} {v : V} (k : Kn H v) (s : Same H H') : Kn H' v := by
  cases k with
  | non => exact .non
  | bl b => exact .bl b
  | int i => exact .int i
  | str x => exact .str x
  | lst e => exact .lst (s _ _ e)
  | tup e => exact .tup (s _ _ e)
theorem Kn.ty {K : PySem.W.Frag} {H : Hp} {v : V} (k : Kn H v) : TyX K H v (.type (tnm H v)) := by
  cases k with
  | non => exact .base .non
  | bl b => exact .base (.bl b)
  | int i => exact .base (.int i)
  | str x => exact .base (.str x)
  | lst e => rw [tnm_lst e]; exact .base (.lst e)
  | tup e => rw [tnm_tup e]; exact .base (.tup e)
section
variable {X : Cx}
/-- isinstance(v, T), a known value, a built-in type -/
theorem call_isK : CallR X (.builtin "isinstance") (fun xs H Q => ∃ (v : V) (T : String) (b : Bool), xs = [v, .ty T] ∧ Kn H v ∧ kitB (tnm H v) T = some b ∧ Q (.bl b) H) := by
  intro pins s σ H xs us Q I r h
  obtain ⟨v, T, b, rfl, k, e, q⟩ := h
  exact call_isi pins s σ H _ us Q I r ⟨v, .ty T, _, _, b, rfl, .ty T, k.ty, kit_ty e, q⟩
end
/-- a whole number, no Boolean -/
def isW : V → Bool
  | .int _ => true
  | _ => false
/-- a count -/
def isC : V → Bool
  | .int i => decide (0 ≤ i)
  | _ => false
/-- isinstance(v, int) -/
def isI : V → Bool
  | .int _ => true
  | .bl _ => true
  | _ => false
def isBo : V → Bool
  | .bl _ => true
  | _ => false
def isTu (H : Hp) : V → Bool
  | .ref a => match H a with
    | some (.tup _) => true
    | _ => false
  | _ => false
def isLi (H : Hp) : V → Bool
  | .ref a => match H a with
    | some (.lst _) => true
    | _ => false
  | _ => false
theorem kit_int {H : Hp} {v : V} (k : Kn H v) : kitB (tnm H v) "int" = some (isI v) := by
  cases k with
  | non => show kitB "NoneType" "int" = some false; decide +kernel
  | bl b => show kitB "bool" "int" = some true; decide +kernel
  | int i => show kitB "int" "int" = some true; decide +kernel
  | str x => show kitB "str" "int" = some false; decide +kernel
  | lst e => rw [tnm_lst e]; show kitB "list" "int" = some false; decide +kernel
  | tup e => rw [tnm_tup e]; show kitB "tuple" "int" = some false; decide +kernel
theorem kit_bool {H : Hp} {v : V} (k : Kn H v) : kitB (tnm H v) "bool" = some (isBo v) := by
  cases k with
  | non => show kitB "NoneType" "bool" = some false; decide +kernel
  | bl b => show kitB "bool" "bool" = some true; decide +kernel
  | int i => show kitB "int" "bool" = some false; decide +kernel
  | str x => show kitB "str" "bool" = some false; decide +kernel
  | lst e => rw [tnm_lst e]; show kitB "list" "bool" = some false; decide +kernel
  | tup e => rw [tnm_tup e]; show kitB "tuple" "bool" = some false; decide +kernel
theorem kit_tuple {H : Hp} {v : V} (k : Kn H v) : kitB (tnm H v) "tuple" = some (isTu H v) := by
  cases k with
  | non => show kitB "NoneType" "tuple" = some false; decide +kernel
  | bl b => show kitB "bool" "tuple" = some false; decide +kernel
  | int i => show kitB "int" "tuple" = some false; decide +kernel
  | str x => show kitB "str" "tuple" = some false; decide +kernel
  | lst e => rw [tnm_lst e, show isTu H (.ref _) = false by simp only [isTu, e]]; decide +kernel
  | tup e => rw [tnm_tup e, show isTu H (.ref _) = true by simp only [isTu, e]]; decide +kernel
theorem kit_list {H : Hp} {v : V} (k : Kn H v) : kitB (tnm H v) "list" = some (isLi H v) := by
  cases k with
  | non => show kitB "NoneType" "list" = some false; decide +kernel
  | bl b => show kitB "bool" "list" = some false; decide +kernel
  | int i => show kitB "int" "list" = some false; decide +kernel
  | str x => show kitB "str" "list" = some false; decide +kernel
  | lst e => rw [tnm_lst e, show isLi H (.ref _) = true by simp only [isLi, e]]; decide +kernel
  | tup e => rw [tnm_tup e, show isLi H (.ref _) = false by simp only [isLi, e]]; decide +kernel
theorem isTu_tup {H : Hp} {a : Addr} {xs : List V} (e : H a = some (.tup xs)) : isTu H (.ref a) = true := by simp only [isTu, e]
theorem isLi_lst {H : Hp} {a : Addr} {xs : List V} (e : H a = some (.lst xs)) : isLi H (.ref a) = true := by simp only [isLi, e]

/-! ### comprehensions that map -/
/-- n turns, each giving f i and leaving all that was tracked -/
theorem lc_mapW {J : It} {n : Nat} {G : Hp → Prop} {Y : Nat → Hp → V → Hp → Prop} (w : Walk J n G Y) {g : TG} {te : TE} {vs : List Nat} {σ : L2.St} {H1 : Hp} {D : Addr} {Qd : Hp → Prop} (f : Nat → V) (hn : n < sizeLine)
    (hG : ∀ H, Same H1 H → G H)
    (hs : ∀ (i : Nat) (x : V) (H H' : Hp) (R : VK), i < n → Same H1 H → Y i H x H' → (∀ H'', Same H H'' → R (f i) H'') → g x (wipe σ vs) H' fun σ2 H2 => wipe σ2 vs = wipe σ vs ∧ te σ2 H2 R)
    (hD : H1 D = none) (hd : ∀ H : Hp, Same H1 H → H D = some (.lst ((List.range n).map f)) → Qd H) :
    ∃ W : Nat → Nat → Hp → Prop, (∃ m, W 0 m (upd H1 D (.lst []))) ∧ ∀ i m H, W i m H →
      (J.stop i H ∧ Qd H) ∨ (J.go i H ∧ ∃ Nx : Hp → Prop, (∀ H', Nx H' → ∃ m', m' < m ∧ W (i + 1) m' H') ∧ ∀ x H', J.yld i H x H' → g x (wipe σ vs) H' fun σ2 H2 => wipe σ2 vs = wipe σ vs ∧ tYes σ2 H2 fun b H3 =>
        if b = true then te σ2 H3 fun y H4 => ∃ acc, H4 D = some (.lst acc) ∧ acc.length < sizeLine ∧ Nx (upd H4 D (.lst (acc ++ [y]))) else Nx H3) := by
  refine lc_it w (fun i H => Same H1 H ∧ H D = some (.lst ((List.range i).map f)) ∧ i ≤ n) ⟨sameNew hD, upd_same, Nat.zero_le _⟩ (fun i H _ p => hG H p.1) (fun i x H H' hi p y => ?_) fun H p => hd H p.1 p.2.1
  have q := hs i x H H' (fun y H4 => ∃ acc, H4 D = some (.lst acc) ∧ acc.length < sizeLine ∧ (Same H1 (upd H4 D (.lst (acc ++ [y]))) ∧ upd H4 D (.lst (acc ++ [y])) D = some (.lst ((List.range (i + 1)).map f)) ∧ i + 1 ≤ n)) hi p.1 y fun H'' s => by
    refine ⟨_, s D _ p.2.1, ?_, same_upd2 hD (p.1.trans s), ?_, hi⟩
    · rw [List.length_map, List.length_range]
      omega
    · rw [upd_same, List.range_succ, List.map_append]
      rfl
  exact q
theorem range_map_get {α β : Type} (xs : List α) (f : α → β) (d : Nat → β) (h : ∀ (i : Nat) (x : α), xs[i]? = some x → d i = f x) : (List.range xs.length).map d = xs.map f := by
  refine List.ext_getElem? fun i => ?_
  by_cases hi : i < xs.length
  · rw [List.getElem?_map, List.getElem?_map, List.getElem?_range hi, List.getElem?_eq_getElem hi]
    exact congrArg some (h i _ (List.getElem?_eq_getElem hi))
  · rw [List.getElem?_eq_none (by simp; omega), List.getElem?_eq_none (by simp; omega)]
/-- over a tuple -/
theorem lcT_map {K : PySem.W.Frag} {a : Addr} {xs : List V} {j : Nat} {te : TE} {vs : List Nat} {σ : L2.St} {H1 : Hp} {D : Addr} {Qd : Hp → Prop} (f : V → V) (ha : H1 a = some (.tup xs)) (hn : xs.length < sizeLine)
    (hs : ∀ (i : Nat) (x : V) (H : Hp) (R : VK), xs[i]? = some x → Same H1 H → (∀ H', Same H H' → R (f x) H') → wipe ((wipe σ vs).set j (some x)) vs = wipe σ vs ∧ te ((wipe σ vs).set j (some x)) H R)
    (hD : H1 D = none) (hd : ∀ H : Hp, Same H1 H → H D = some (.lst (xs.map f)) → Qd H) :
    ∃ W : Nat → Nat → Hp → Prop, (∃ m, W 0 m (upd H1 D (.lst []))) ∧ ∀ i m H, W i m H →
      ((Itt K a).stop i H ∧ Qd H) ∨ ((Itt K a).go i H ∧ ∃ Nx : Hp → Prop, (∀ H', Nx H' → ∃ m', m' < m ∧ W (i + 1) m' H') ∧ ∀ x H', (Itt K a).yld i H x H' → gName j x (wipe σ vs) H' fun σ2 H2 => wipe σ2 vs = wipe σ vs ∧ tYes σ2 H2 fun b H3 =>
        if b = true then te σ2 H3 fun y H4 => ∃ acc, H4 D = some (.lst acc) ∧ acc.length < sizeLine ∧ Nx (upd H4 D (.lst (acc ++ [y]))) else Nx H3) := by
  have e : (List.range xs.length).map (fun i => f (xs.getD i .non)) = xs.map f := range_map_get xs f _ fun i x h => by rw [List.getD_eq_getElem?_getD, h]; rfl
  refine lc_mapW (walk_tup (K := K) (a := a) (xs := xs)) (fun i => f (xs.getD i .non)) hn (fun H s => .inl (.inl (s _ _ ha))) (fun i x H H' R hi s y q => ?_) hD fun H s q => hd H s (by rw [q, e])
  obtain ⟨rfl, hx⟩ := y
  refine hs i x H' R hx s fun H'' s' => ?_
  have := q H'' s'
  rw [show xs.getD i .non = x by rw [List.getD_eq_getElem?_getD, hx]; rfl] at this
  exact this
/-- over a list -/
theorem lcL_map {K : PySem.W.Frag} {a : Addr} {xs : List V} {j : Nat} {te : TE} {vs : List Nat} {σ : L2.St} {H1 : Hp} {D : Addr} {Qd : Hp → Prop} (f : V → V) (ha : H1 a = some (.lst xs)) (hn : xs.length < sizeLine)
    (hs : ∀ (i : Nat) (x : V) (H : Hp) (R : VK), xs[i]? = some x → Same H1 H → (∀ H', Same H H' → R (f x) H') → wipe ((wipe σ vs).set j (some x)) vs = wipe σ vs ∧ te ((wipe σ vs).set j (some x)) H R)
    (hD : H1 D = none) (hd : ∀ H : Hp, Same H1 H → H D = some (.lst (xs.map f)) → Qd H) :
    ∃ W : Nat → Nat → Hp → Prop, (∃ m, W 0 m (upd H1 D (.lst []))) ∧ ∀ i m H, W i m H →
      ((Itl K a).stop i H ∧ Qd H) ∨ ((Itl K a).go i H ∧ ∃ Nx : Hp → Prop, (∀ H', Nx H' → ∃ m', m' < m ∧ W (i + 1) m' H') ∧ ∀ x H', (Itl K a).yld i H x H' → gName j x (wipe σ vs) H' fun σ2 H2 => wipe σ2 vs = wipe σ vs ∧ tYes σ2 H2 fun b H3 =>
        if b = true then te σ2 H3 fun y H4 => ∃ acc, H4 D = some (.lst acc) ∧ acc.length < sizeLine ∧ Nx (upd H4 D (.lst (acc ++ [y]))) else Nx H3) := by
  have e : (List.range xs.length).map (fun i => f (xs.getD i .non)) = xs.map f := range_map_get xs f _ fun i x h => by rw [List.getD_eq_getElem?_getD, h]; rfl
  refine lc_mapW (walk_list (K := K) (a := a) (xs := xs)) (fun i => f (xs.getD i .non)) hn (fun H s => .inl (.inl (s _ _ ha))) (fun i x H H' R hi s y q => ?_) hD fun H s q => hd H s (by rw [q, e])
  obtain ⟨rfl, hx⟩ := y
  refine hs i x H' R hx s fun H'' s' => ?_
  have := q H'' s'
  rw [show xs.getD i .non = x by rw [List.getD_eq_getElem?_getD, hx]; rfl] at this
  exact this
/-- over a range -/
theorem lcR_map {lo : Int} {n : Nat} {j : Nat} {te : TE} {vs : List Nat} {σ : L2.St} {H1 : Hp} {D : Addr} {Qd : Hp → Prop} (f : Nat → V) (hn : n < sizeLine)
    (hs : ∀ (i : Nat) (H : Hp) (R : VK), i < n → Same H1 H → (∀ H', Same H H' → R (f i) H') → wipe ((wipe σ vs).set j (some (.int (lo + i)))) vs = wipe σ vs ∧ te ((wipe σ vs).set j (some (.int (lo + i)))) H R)
    (hD : H1 D = none) (hd : ∀ H : Hp, Same H1 H → H D = some (.lst ((List.range n).map f)) → Qd H) :
    ∃ W : Nat → Nat → Hp → Prop, (∃ m, W 0 m (upd H1 D (.lst []))) ∧ ∀ i m H, W i m H →
      ((Itr lo n).stop i H ∧ Qd H) ∨ ((Itr lo n).go i H ∧ ∃ Nx : Hp → Prop, (∀ H', Nx H' → ∃ m', m' < m ∧ W (i + 1) m' H') ∧ ∀ x H', (Itr lo n).yld i H x H' → gName j x (wipe σ vs) H' fun σ2 H2 => wipe σ2 vs = wipe σ vs ∧ tYes σ2 H2 fun b H3 =>
        if b = true then te σ2 H3 fun y H4 => ∃ acc, H4 D = some (.lst acc) ∧ acc.length < sizeLine ∧ Nx (upd H4 D (.lst (acc ++ [y]))) else Nx H3) := by
  refine lc_mapW (walk_range (lo := lo) (n := n)) f hn (fun H s => True.intro) (fun i x H H' R hi s y q => ?_) hD fun H s q => hd H s q
  obtain ⟨rfl, rfl⟩ := y
  exact hs i H' R hi s q
theorem range_map_zip {α β γ : Type} (xs : List α) (ys : List β) (hl : xs.length = ys.length) (f : α → β → γ) (d : Nat → γ) (h : ∀ (i : Nat) (x : α) (y : β), xs[i]? = some x → ys[i]? = some y → d i = f x y) : (List.range xs.length).map d = List.zipWith f xs ys := by
  refine List.ext_getElem? fun i => ?_
  by_cases hi : i < xs.length
  · have hi2 : i < ys.length := by omega
    rw [List.getElem?_map, List.getElem?_range hi, List.getElem?_zipWith, List.getElem?_eq_getElem hi, List.getElem?_eq_getElem hi2]
    exact congrArg some (h i _ _ (List.getElem?_eq_getElem hi) (List.getElem?_eq_getElem hi2))
  · rw [List.getElem?_eq_none (by simp; omega), List.getElem?_eq_none (by simp; omega)]
/-- over zip -/
theorem lcZ_map {K : PySem.W.Frag} {k k' : Kd} {a b : Addr} {xs ys : List V} {i1 i2 : Nat} {te : TE} {vs : List Nat} {σ : L2.St} {H1 : Hp} {D : Addr} {Qd : Hp → Prop} (f : V → V → V) (hl : xs.length = ys.length) (hn : xs.length < sizeLine)
    (ha : ∀ H, Same H1 H → SqB K k H a xs ∧ SqB K k' H b ys)
    (hs : ∀ (i : Nat) (x y : V) (H : Hp) (R : VK), xs[i]? = some x → ys[i]? = some y → Same H1 H → (∀ H', Same H H' → R (f x y) H') → wipe (((wipe σ vs).set i1 (some x)).set i2 (some y)) vs = wipe σ vs ∧ te (((wipe σ vs).set i1 (some x)).set i2 (some y)) H R)
    (hD : H1 D = none) (hd : ∀ H : Hp, Same H1 H → H D = some (.lst (List.zipWith f xs ys)) → Qd H) :
    ∃ W : Nat → Nat → Hp → Prop, (∃ m, W 0 m (upd H1 D (.lst []))) ∧ ∀ i m H, W i m H →
      ((ItB K k k' a b).stop i H ∧ Qd H) ∨ ((ItB K k k' a b).go i H ∧ ∃ Nx : Hp → Prop, (∀ H', Nx H' → ∃ m', m' < m ∧ W (i + 1) m' H') ∧ ∀ x H', (ItB K k k' a b).yld i H x H' → gTup K 2 (gCons (gName i1) (gCons (gName i2) gNil)) x (wipe σ vs) H' fun σ2 H2 => wipe σ2 vs = wipe σ vs ∧ tYes σ2 H2 fun b H3 =>
        if b = true then te σ2 H3 fun y H4 => ∃ acc, H4 D = some (.lst acc) ∧ acc.length < sizeLine ∧ Nx (upd H4 D (.lst (acc ++ [y]))) else Nx H3) := by
  have e : (List.range xs.length).map (fun i => f (xs.getD i .non) (ys.getD i .non)) = List.zipWith f xs ys := range_map_zip xs ys hl f _ fun i x y h h' => by
    rw [List.getD_eq_getElem?_getD, List.getD_eq_getElem?_getD, h, h']
    rfl
  refine lc_mapW (walkB (K := K) (k := k) (k' := k') (a := a) (b := b) hl) (fun i => f (xs.getD i .non) (ys.getD i .non)) hn ha (fun i v H H' R hi s y q => ?_) hD fun H s q => hd H s (by rw [q, e])
  obtain ⟨T, x, y, rfl, hT, rfl, hx, hy⟩ := y
  have hx : xs[i]? = some x := hx
  have hy : ys[i]? = some y := hy
  have st : Same H (upd H T (.tup [x, y])) := sameNew hT
  refine ⟨T, [x, y], rfl, .inl (.inl upd_same), rfl, x, [y], rfl, y, [], rfl, rfl, hs i x y _ R hx hy (s.trans st) fun H'' s' => ?_⟩
  have := q H'' (st.trans s')
  rw [show xs.getD i .non = x by rw [List.getD_eq_getElem?_getD, hx]; rfl, show ys.getD i .non = y by rw [List.getD_eq_getElem?_getD, hy]; rfl] at this
  exact this
end CK

set_option Elab.async false
set_option linter.all false
set_option maxRecDepth 100000
set_option maxHeartbeats 2000000
namespace CK
open PySem PySem.Spec PyProof.Rows L2
theorem cutV_drop (xs : List V) (k : Nat) : cutV xs (some (k : Int)) none = xs.drop k := by
  unfold cutV
  rw [HT.sIx_nat xs.length 0 k, HT.sIx_none]
  by_cases h : k ≤ xs.length
  · rw [Nat.min_eq_left h, List.take_of_length_le (by rw [List.length_drop]; exact Nat.le_refl _)]
  · rw [Nat.min_eq_right (by omega), List.drop_of_length_le (Nat.le_refl _), List.drop_of_length_le (by omega), List.take_nil]
theorem cutV_take (xs : List V) (k : Nat) : cutV xs none (some (k : Int)) = xs.take k := by
  unfold cutV
  rw [HT.sIx_nat xs.length xs.length k, HT.sIx_none]
  show (xs.drop 0).take (min k xs.length - 0) = xs.take k
  rw [List.drop_zero, Nat.sub_zero]
  by_cases h : k ≤ xs.length
  · rw [Nat.min_eq_left h]
  · rw [Nat.min_eq_right (by omega), List.take_of_length_le (Nat.le_refl _), List.take_of_length_le (by omega)]
section
variable {X : Cx}
/-- a, b = a pair -/
theorem pg_two {K : PySem.W.Frag} {i j : Nat} {x y : Str} {px py pos : Pos} {k : Nat} (hK : X.K = K) (hc : X.calm = true) (hN : X.N.Nodup) (hi : X.N[i]? = some x) (hj : X.N[j]? = some y) (hx : Loc X.env.scope x) (hy : Loc X.env.scope y)
    (f1 : X.fn x = true ∨ X.env.scope.names.lookup x = some .local := by first | exact .inl rfl | exact .inr rfl)
    (f2 : X.fn y = true ∨ X.env.scope.names.lookup y = some .local := by first | exact .inl rfl | exact .inr rfl) :
    PG X (.Tuple [.Name x px, .Name y py] k pos) (gTup K 2 (gCons (gName i) (gCons (gName j) gNil))) := by
  subst hK
  exact pg_tup hc (pgs_cons (pg_name hN hi hx f1) (pgs_cons (pg_name hN hj hy f2) pgs_nil))
/-- t[k:], a tuple: what is behind, wherever it stands -/
theorem sl_drop : SlR X (fun x lo hi H Q => ∃ (a : Addr) (xs : List V) (k : Nat), x = .ref a ∧ lo = some (k : Int) ∧ hi = none ∧ H a = some (.tup xs) ∧ ∀ p H', Same H H' → H' p = some (.tup (xs.drop k)) → Q (.ref p) H') := by
  intro pins s σ H x v vl vu lo hi sl Q I rx hs pl pu h
  obtain ⟨a, xs, k, rfl, rfl, rfl, ha, q⟩ := h
  refine sl_tupA pins s σ H _ v vl vu _ _ sl Q I rx hs pl pu ⟨a, xs, rfl, .inl (.inl ha), fun z => q a H (Same.refl H) ?_, fun _ p hp => q p _ (sameNew hp) (by rw [upd_same, cutV_drop])⟩
  rw [ha, ← cutV_drop xs k]
  unfold cutV
  rw [z.1, z.2, Nat.sub_zero, List.drop_zero, List.take_length]
/-- t[:k] -/
theorem sl_take : SlR X (fun x lo hi H Q => ∃ (a : Addr) (xs : List V) (k : Nat), x = .ref a ∧ lo = none ∧ hi = some (k : Int) ∧ H a = some (.tup xs) ∧ ∀ p H', Same H H' → H' p = some (.tup (xs.take k)) → Q (.ref p) H') := by
  intro pins s σ H x v vl vu lo hi sl Q I rx hs pl pu h
  obtain ⟨a, xs, k, rfl, rfl, rfl, ha, q⟩ := h
  refine sl_tupA pins s σ H _ v vl vu _ _ sl Q I rx hs pl pu ⟨a, xs, rfl, .inl (.inl ha), fun z => q a H (Same.refl H) ?_, fun _ p hp => q p _ (sameNew hp) (by rw [upd_same, cutV_take])⟩
  rw [ha, ← cutV_take xs k]
  unfold cutV
  rw [z.1, z.2, Nat.sub_zero, List.drop_zero, List.take_length]
/-- t + u, tuples -/
theorem op_catS : OpR X (binaryOp .Add) (fun x y H Q => ∃ (a b : Addr) (xs ys : List V), x = .ref a ∧ y = .ref b ∧ H a = some (.tup xs) ∧ H b = some (.tup ys) ∧ xs.length + ys.length ≤ 1000 ∧
    ∀ p H', Same H H' → H' p = some (.tup (xs ++ ys)) → Q (.ref p) H') := by
  intro pins s σ H x y v u Q I rx ry h
  obtain ⟨a, b, xs, ys, rfl, rfl, ha, hb, hl, q⟩ := h
  refine op_catA pins s σ H _ _ v u Q I rx ry ⟨a, b, xs, ys, rfl, rfl, .inl (.inl ha), .inl (.inl hb), Nat.le_of_lt (small1000 hl), fun e => ?_, fun _ e => ?_, fun _ _ p hp => q p _ (sameNew hp) upd_same⟩
  · subst e
    exact q b H (Same.refl H) hb
  · subst e
    exact q a H (Same.refl H) (by rw [List.append_nil]; exact ha)
/-- t[i], xs[i] of what is tracked (no word of the written part, so that it stands in a comprehension) -/
theorem ix_tupH : IxR X (fun x y H Q => ∃ (p : Addr) (xs : List V) (i : Int) (v : V), x = .ref p ∧ y = .int i ∧ H p = some (.tup xs) ∧ atI xs i = some v ∧ Q v H) := by
  intro ve se pins s σ H x y xv yv Q I rx ry h e
  obtain ⟨p, xs, i, v, e1, e2, hp, e3, q⟩ := h
  exact ix_tup ve se pins s σ H x y xv yv Q I rx ry ⟨p, xs, i, v, e1, e2, .inl (.inl hp), e3, q⟩ e
theorem ix_listH : IxR X (fun x y H Q => ∃ (p : Addr) (xs : List V) (i : Int) (v : V), x = .ref p ∧ y = .int i ∧ H p = some (.lst xs) ∧ atI xs i = some v ∧ Q v H) := by
  intro ve se pins s σ H x y xv yv Q I rx ry h e
  obtain ⟨p, xs, i, v, e1, e2, hp, e3, q⟩ := h
  exact ix_list ve se pins s σ H x y xv yv Q I rx ry ⟨p, xs, i, v, e1, e2, .inl (.inl hp), e3, q⟩ e
theorem cr_sumH (hc : X.calm = true) : CallR X (.builtin "sum") (fun vs H Q => ∃ (a : Addr) (ns : List Int), vs = [V.ref a] ∧ H a = some (.lst (ns.map V.int)) ∧ Q (.int ns.sum) H) := by
  intro pins s σ H xs us Q I r h
  obtain ⟨a, ns, e, ha, q⟩ := h
  exact cr_sum hc pins s σ H xs us Q I r ⟨a, ns, e, .inl (.inl ha), q⟩
theorem call_listL : CallR X (.type "list") (fun xs H Q => ∃ (p : Addr) (ys : List V), xs = [.ref p] ∧ H p = some (.lst ys) ∧ ∀ l, H l = none → Q (.ref l) (upd H l (.lst ys))) := by
  intro pins s σ H xs us Q I r h
  obtain ⟨p, ys, e, hp, q⟩ := h
  exact call_list_of pins s σ H xs us Q I r ⟨p, ys, e, .inl (.inl (.inl hp)), q⟩
/-- tuple(xs) of a list: a new tuple -/
theorem call_tupL : CallR X (.type "tuple") (fun xs H Q => ∃ (p : Addr) (ys : List V), xs = [.ref p] ∧ H p = some (.lst ys) ∧ ∀ l H', Same H H' → H' l = some (.tup ys) → Q (.ref l) H') := by
  intro pins s σ H xs us Q I r h
  obtain ⟨p, ys, rfl, hp, q⟩ := h
  exact call_tuple_of pins s σ H _ us Q I r ⟨p, ys, rfl, .inl ⟨.inl (.inl hp), fun l hl => q l _ (sameNew hl) upd_same⟩⟩
end
end CK

set_option Elab.async false
set_option linter.all false
set_option maxRecDepth 100000
set_option maxHeartbeats 2000000
/-! the laws' generator of numbers: a list of three whole numbers -/
namespace CK
open PySem PySem.Spec PyProof.Rows L2
/-- the generator at g, from which n more numbers may be drawn -/
def Gn (n : Nat) (H : Hp) (g : Addr) : Prop := ∃ a b c : Int, H g = some (.lst [.int a, .int b, .int c]) ∧ 0 ≤ a ∧ 0 ≤ b ∧ b < 2 ^ 31 ∧ 0 ≤ c ∧ c + 8 * n ≤ 2 ^ 40
theorem Gn.le {n m : Nat} {H : Hp} {g : Addr} (h : Gn n H g) (hm : m ≤ n) : Gn m H g := by
  obtain ⟨a, b, c, h1, h2, h3, h4, h5, h6⟩ := h
  exact ⟨a, b, c, h1, h2, h3, h4, h5, by omega⟩
theorem Gn.same {n : Nat} {H H' : Hp} {g : Addr} (h : Gn n H g) (s : Same H H') : Gn n H' g := by
  obtain ⟨a, b, c, h1, r⟩ := h
  exact ⟨a, b, c, s _ _ h1, r⟩
theorem Gn.at {n : Nat} {H : Hp} {g : Addr} (h : Gn n H g) : ∃ xs, H g = some (.lst xs) := by
  obtain ⟨a, b, c, h1, r⟩ := h
  exact ⟨_, h1⟩
theorem Gn.ne {n : Nat} {H : Hp} {g D : Addr} (h : Gn n H g) (hD : H D = none) : D ≠ g := fun e => by
  obtain ⟨xs, h1⟩ := h.at
  rw [e, h1] at hD
  cases hD
theorem Gn.upd {n : Nat} {H : Hp} {g D : Addr} {o : HO} (h : Gn n H g) (hD : D ≠ g) : Gn n (upd H D o) g := by
  obtain ⟨a, b, c, h1, r⟩ := h
  exact ⟨a, b, c, by rw [upd_ne (Ne.symm hD)]; exact h1, r⟩
theorem sameX_new {g : Addr} {H : Hp} {D : Addr} {o : HO} (hD : H D = none) : SameX g H (L2.upd H D o) := .of (sameNew hD)
theorem SameX.upd2 {g D : Addr} {H H1 : Hp} {o : HO} (s : SameX g H H1) (hD : H D = none) : SameX g H (L2.upd H1 D o) := fun b z n e => by
  rw [upd_ne (ne_of_none e hD)]
  exact s b z n e
theorem SameX.tup {g a : Addr} {H H' : Hp} {xs : List V} {n : Nat} (s : SameX g H H') (G : Gn n H g) (h : H a = some (.tup xs)) : H' a = some (.tup xs) := s a _ (fun e => by
  obtain ⟨ys, h1⟩ := G.at
  rw [e, h1] at h
  cases h) h
theorem ix_at {n j : Nat} (h : j < n) : ixN n (j : Int) = some j := by
  unfold ixN
  rw [if_pos (by omega), if_pos (by omega)]
  rfl
/-- a comprehension that draws: its numbers stay within most -/
theorem lcD_draw {lo : Int} {g : Addr} {n cnt j : Nat} {most : Int} {te : TE} {vs : List Nat} {σ : L2.St} {H1 : Hp} {D : Addr} {Qd : Hp → Prop} (hc : cnt < sizeLine) (hD : H1 D = none) (hg : Gn (n + cnt) H1 g)
    (hs : ∀ (i : Nat) (H : Hp) (R : VK), i < cnt → SameX g H1 H → Gn (n + (cnt - (i + 1)) + 1) H g → (∀ (r : Int) H', SameX g H H' → Gn (n + (cnt - (i + 1))) H' g → 0 ≤ r → r ≤ most → R (.int r) H') →
      wipe ((wipe σ vs).set j (some (.int (lo + i)))) vs = wipe σ vs ∧ te ((wipe σ vs).set j (some (.int (lo + i)))) H R)
    (hd : ∀ (H : Hp) (ns : List Int), SameX g H1 H → Gn n H g → H D = some (.lst (ns.map V.int)) → ns.length = cnt → (∀ x ∈ ns, 0 ≤ x ∧ x ≤ most) → Qd H) :
    ∃ W : Nat → Nat → Hp → Prop, (∃ m, W 0 m (L2.upd H1 D (.lst []))) ∧ ∀ i m H, W i m H →
      ((Itr lo cnt).stop i H ∧ Qd H) ∨ ((Itr lo cnt).go i H ∧ ∃ Nx : Hp → Prop, (∀ H', Nx H' → ∃ m', m' < m ∧ W (i + 1) m' H') ∧ ∀ x H', (Itr lo cnt).yld i H x H' → gName j x (wipe σ vs) H' fun σ2 H2 => wipe σ2 vs = wipe σ vs ∧ tYes σ2 H2 fun b H3 =>
        if b = true then te σ2 H3 fun y H4 => ∃ acc, H4 D = some (.lst acc) ∧ acc.length < sizeLine ∧ Nx (L2.upd H4 D (.lst (acc ++ [y]))) else Nx H3) := by
  have hDg := hg.ne hD
  refine lc_range (fun i H => SameX g H1 H ∧ Gn (n + (cnt - i)) H g ∧ i ≤ cnt ∧ ∃ ns : List Int, H D = some (.lst (ns.map V.int)) ∧ ns.length = i ∧ ∀ x ∈ ns, 0 ≤ x ∧ x ≤ most)
    ⟨sameX_new hD, hg.upd hDg, Nat.zero_le _, [], upd_same, rfl, fun x h => absurd h List.not_mem_nil⟩ (fun i H hi p => ?_) fun H p => ?_
  · obtain ⟨s, G, _, ns, hL, hl, hb⟩ := p
    have G1 : Gn (n + (cnt - (i + 1)) + 1) H g := by
      have e : n + (cnt - (i + 1)) + 1 = n + (cnt - i) := by omega
      rw [e]
      exact G
    refine hs i H _ hi s G1 fun r H' s' G' h0 h1 => ⟨_, s' D _ hDg hL, by rw [List.length_map]; omega, (s.trans s').upd2 hD, G'.upd hDg, hi, ns ++ [r], ?_, ?_, fun x hx => ?_⟩
    · rw [upd_same, List.map_append]
      rfl
    · rw [List.length_append, hl]
      rfl
    · rcases List.mem_append.mp hx with z | z
      · exact hb x z
      · rw [List.mem_singleton.mp z]
        exact ⟨h0, h1⟩
  · obtain ⟨s, G, _, ns, hL, hl, hb⟩ := p
    rw [Nat.sub_self] at G
    exact hd H ns s G hL hl hb
end CK

set_option Elab.async false
set_option linter.all false
set_option maxRecDepth 100000
set_option maxHeartbeats 2000000
namespace CK
open PySem PySem.Spec PyProof.Rows L2
/-! ### data that are compared -/
def dI (ns : List Int) : PyData := .tuple (ns.map PyData.int)
theorem lay_ints : ∀ ns : List Int, PyData.canLayAll0 (ns.map PyData.int) = true
  | [] => by simp [PyData.canLayAll0]
  | n :: ns => by
    rw [List.map_cons, PyData.canLayAll0, lay_ints ns]
    simp [PyData.canLay0]
theorem deep_ints : ∀ ns : List Int, PyData.depthAll (ns.map PyData.int) = 0
  | [] => by simp [PyData.depthAll]
  | n :: ns => by
    rw [List.map_cons, PyData.depthAll, deep_ints ns]
    simp [PyData.depth]
theorem lay_dI (ns : List Int) : (dI ns).canLay0 = true := by
  unfold dI
  rw [PyData.canLay0]
  exact lay_ints ns
theorem deep_dI (ns : List Int) : (dI ns).depth = 1 := by
  unfold dI
  rw [PyData.depth, deep_ints]
theorem shaped_dI (ns : List Int) : SeqAt.shaped (dI ns) = true := by
  unfold SeqAt.shaped
  rw [lay_dI, deep_dI]
  rfl
theorem lay_forms : ∀ fs : List (List Int), PyData.canLayAll0 (fs.map dI) = true
  | [] => by simp [PyData.canLayAll0]
  | f :: fs => by
    rw [List.map_cons, PyData.canLayAll0, lay_forms fs, lay_dI]
    rfl
theorem deep_forms : ∀ fs : List (List Int), PyData.depthAll (fs.map dI) ≤ 1
  | [] => by simp [PyData.depthAll]
  | f :: fs => by
    have := deep_forms fs
    rw [List.map_cons, PyData.depthAll, deep_dI]
    omega
theorem shaped_forms (fs : List (List Int)) : SeqAt.shaped (.list (fs.map dI)) = true := by
  unfold SeqAt.shaped
  rw [PyData.canLay0, lay_forms, PyData.depth]
  have := deep_forms fs
  rw [decide_eq_true (by omega)]
  rfl
section
variable {K : PySem.W.Frag} {H : Hp}
theorem dpAll_ints : ∀ ns : List Int, DpAll K H (ns.map V.int) (ns.map PyData.int)
  | [] => .nil
  | n :: ns => .cons (.int n) (dpAll_ints ns)
theorem dp_ints {a : Addr} {ns : List Int} (h : H a = some (.tup (ns.map V.int))) : Dp K H (.ref a) (dI ns) := .tup (.inl (.inl h)) (dpAll_ints ns)
end
section
variable {X : Cx}
/-- x != y, of equal data -/
theorem op_neSame (hu : X.A.units + 64 < cLine) : OpR X (compareOp .NotEq) (fun x y H Q => ∃ d, Dp X.K H x d ∧ Dp X.K H y d ∧ SeqAt.shaped d = true ∧ Q (.bl false) H) := by
  intro pins s σ H x y v u Q I rx ry h
  obtain ⟨d, h1, h2, h3, q⟩ := h
  refine op_neD hu pins s σ H x y v u Q I rx ry ⟨d, d, h1, h2, h3, h3, ?_⟩
  rw [SeqAt.eqv_refl d (SeqAt.canLay_of_shaped h3)]
  exact q
end
/-! ### comprehensions that map, by the turn's number -/
theorem lcZ_mapI {K : PySem.W.Frag} {k k' : Kd} {a b : Addr} {xs ys : List V} {i1 i2 : Nat} {te : TE} {vs : List Nat} {σ : L2.St} {H1 : Hp} {D : Addr} {Qd : Hp → Prop} (f : Nat → V) (hl : xs.length = ys.length) (hn : xs.length < sizeLine)
    (ha : ∀ H, Same H1 H → SqB K k H a xs ∧ SqB K k' H b ys)
    (hs : ∀ (i : Nat) (x y : V) (H : Hp) (R : VK), xs[i]? = some x → ys[i]? = some y → Same H1 H → (∀ H', Same H H' → R (f i) H') → wipe (((wipe σ vs).set i1 (some x)).set i2 (some y)) vs = wipe σ vs ∧ te (((wipe σ vs).set i1 (some x)).set i2 (some y)) H R)
    (hD : H1 D = none) (hd : ∀ H : Hp, Same H1 H → H D = some (.lst ((List.range xs.length).map f)) → Qd H) :
    ∃ W : Nat → Nat → Hp → Prop, (∃ m, W 0 m (upd H1 D (.lst []))) ∧ ∀ i m H, W i m H →
      ((ItB K k k' a b).stop i H ∧ Qd H) ∨ ((ItB K k k' a b).go i H ∧ ∃ Nx : Hp → Prop, (∀ H', Nx H' → ∃ m', m' < m ∧ W (i + 1) m' H') ∧ ∀ x H', (ItB K k k' a b).yld i H x H' → gTup K 2 (gCons (gName i1) (gCons (gName i2) gNil)) x (wipe σ vs) H' fun σ2 H2 => wipe σ2 vs = wipe σ vs ∧ tYes σ2 H2 fun b H3 =>
        if b = true then te σ2 H3 fun y H4 => ∃ acc, H4 D = some (.lst acc) ∧ acc.length < sizeLine ∧ Nx (upd H4 D (.lst (acc ++ [y]))) else Nx H3) := by
  refine lc_mapW (walkB (K := K) (k := k) (k' := k') (a := a) (b := b) hl) f hn ha (fun i v H H' R hi s y q => ?_) hD hd
  obtain ⟨T, x, y, rfl, hT, rfl, hx, hy⟩ := y
  have hx : xs[i]? = some x := hx
  have hy : ys[i]? = some y := hy
  have st : Same H (upd H T (.tup [x, y])) := sameNew hT
  exact ⟨T, [x, y], rfl, .inl (.inl upd_same), rfl, x, [y], rfl, y, [], rfl, rfl, hs i x y _ R hx hy (s.trans st) fun H'' s' => q H'' (st.trans s')⟩
theorem lcL_mapI {K : PySem.W.Frag} {a : Addr} {xs : List V} {j : Nat} {te : TE} {vs : List Nat} {σ : L2.St} {H1 : Hp} {D : Addr} {Qd : Hp → Prop} (f : Nat → V) (ha : H1 a = some (.lst xs)) (hn : xs.length < sizeLine)
    (hs : ∀ (i : Nat) (x : V) (H : Hp) (R : VK), xs[i]? = some x → Same H1 H → (∀ H', Same H H' → R (f i) H') → wipe ((wipe σ vs).set j (some x)) vs = wipe σ vs ∧ te ((wipe σ vs).set j (some x)) H R)
    (hD : H1 D = none) (hd : ∀ H : Hp, Same H1 H → H D = some (.lst ((List.range xs.length).map f)) → Qd H) :
    ∃ W : Nat → Nat → Hp → Prop, (∃ m, W 0 m (upd H1 D (.lst []))) ∧ ∀ i m H, W i m H →
      ((Itl K a).stop i H ∧ Qd H) ∨ ((Itl K a).go i H ∧ ∃ Nx : Hp → Prop, (∀ H', Nx H' → ∃ m', m' < m ∧ W (i + 1) m' H') ∧ ∀ x H', (Itl K a).yld i H x H' → gName j x (wipe σ vs) H' fun σ2 H2 => wipe σ2 vs = wipe σ vs ∧ tYes σ2 H2 fun b H3 =>
        if b = true then te σ2 H3 fun y H4 => ∃ acc, H4 D = some (.lst acc) ∧ acc.length < sizeLine ∧ Nx (upd H4 D (.lst (acc ++ [y]))) else Nx H3) := by
  refine lc_mapW (walk_list (K := K) (a := a) (xs := xs)) f hn (fun H s => .inl (.inl (s _ _ ha))) (fun i x H H' R hi s y q => ?_) hD hd
  obtain ⟨rfl, hx⟩ := y
  exact hs i x H' R hx s q
end CK

set_option Elab.async false
set_option linter.all false
set_option maxRecDepth 100000
set_option maxHeartbeats 2000000
/-! own classes: their facts, their methods' promises by their bodies -/
namespace CK
open PySem PySem.Spec PyProof.Rows L2
/-- a method's def as it stands behind the top -/
structure MetF (K : PySem.W.Frag) (C : Addr) (m q : Str) (st : Stmt) (ps : List Str) : Prop where
  ex : ∃ (f : Addr) (fd : FuncData), C8.Fun K m q st f fd ∧ Meth K C m f ∧ Binds K fd ps []
/-- a class as it stands -/
structure ClF (K : PySem.W.Frag) (mg : Str → Option Value) (x : Str) (C : Addr) : Prop where
  mgC : mg x = some (.ref C)
  makes : PySem.W.makesIn K C = true
  kp : PySem.W.keepIn K (.ref C) = true
  ins : C8.InsC K C
theorem metF_mk {K : PySem.W.Frag} {mg : Str → Option Value} {x : Str} {C : Addr} (_ : ClF K mg x C) (m q : Str) (st : Stmt) (ps : List Str) {f : Addr} {od an : Option Addr} {oc kV dc pm cd ct : Value} {sl : Array (Option Value)}
    (a : PySem.W.findIn K (.ref C) m = some (some (.ref f))) (i : PySem.W.isFn K (.ref f) = true)
    (l : K.lookup f = some ⟨oc, od, .func (PySem.W.fnOf m q (C8.fnArgs st) (C8.fnBody st) (C8.fnScope st) .none kV dc pm an cd ct), sl⟩)
    (c : PySem.W.codeIn K cd q = true) (k : PySem.W.keepIn K (.ref f) = true)
    (hb : ∀ (kV doc pm : Value) (an : Option Addr) (cdv ct : Value) (us : List Value), us.length = ps.length →
      bindArgs (PySem.W.fnOf m q (C8.fnArgs st) (C8.fnBody st) (C8.fnScope st) .none kV doc pm an cdv ct) ⟨us, []⟩ = pure (ps.zip us)) : MetF K C m q st ps :=
  ⟨f, _, ⟨oc, od, .none, kV, dc, pm, an, cd, ct, sl, rfl, l, c⟩, ⟨a, i, k⟩, C8.Fun.binds ⟨oc, od, .none, kV, dc, pm, an, cd, ct, sl, rfl, l, c⟩ rfl hb⟩
theorem clF_mk {K : PySem.W.Frag} {h : Heap} {mg : Str → Option Value} {x : Str} {C : Addr} (X : K.In h) (G : h.Ns mainGlobals mg)
    (a : PySem.W.nsIn K mainGlobals x = some (some (.ref C))) (pg : PySem.W.plainGet K C Str.empty = true) (hd : PySem.W.hasDictIn K C = true) (po : PySem.W.plainOver K C = true)
    (sa : PySem.W.findIn K (.ref C) "__setattr__" = some (some (.builtin "object.__setattr__"))) (mk : PySem.W.makesIn K C = true) (kp : PySem.W.keepIn K (.ref C) = true)
    (ha : PySem.W.findIn K (.ref C) "__class__" = some (some (.builtin "object.__class__"))) (hn : PySem.W.specialIn K (.builtin "object.__class__") "__get__" = some (some (.builtin "getset_descriptor.__get__")))
    (htk : PySem.W.takesIn K (.builtin "object.__class__") = some true) (hm : PySem.W.mroIn K C (.type "object") = some true) : ClF K mg x C :=
  ⟨PySem.W.mg_of X G a, mk, kp, ⟨⟨pg, hd, po, sa⟩, ha, hn, htk, hm, if_pos (beq_self_eq_true _)⟩⟩
theorem with_cls {K : PySem.W.Frag} {h : Heap} {mg : Str → Option Value} (_ : K.In h) (x : Str) {C : Addr} {R : Prop} (d : ClF K mg x C) (r : ClF K mg x C → R) : R := r d
theorem with_met {K : PySem.W.Frag} {mg : Str → Option Value} {x : Str} {C : Addr} (_ : ClF K mg x C) (m q : Str) (st : Stmt) (ps : List Str) {R : Prop} (d : MetF K C m q st ps) (r : MetF K C m q st ps → R) : R := r d
section
variable {P : Program} {w : World} {K : PySem.W.Frag} {mg : Str → Option Value} {base : Heap} {x : Str} {C : Addr}
theorem metF {m q : Str} {st : Stmt} {N ps : List Str} {k : Nat} {sp : Sp} (c : ClF K mg x C) (D : MetF K C m q st ps) (S : FnScope N ps (C8.fnScope st))
    (len : ∀ vs H Q E, sp vs H Q E → vs.length = ps.length)
    (hbody : ∀ (f : Addr) (cdv : Value) (A : Around) (outer : List Env) (s : Shared) (H : Hp) (vs : List V) (Q : VK) (E : XK), Room k (A.deeper (envOfC q (C8.fnScope st) s.heap.objs.size f cdv)) → sp vs H Q E →
      ∃ t, PSs (cxOf C8.CX0 P w K mg base N q (C8.fnScope st) f cdv A outer s H E).nox (C8.fnBody st) t ∧ t { nx := fun _ H' => Q .non H', rt := Q } (start N vs) H) : C8.Met P w K mg base (k + 1) C m sp [] := by
  obtain ⟨f, fd, F, me, b⟩ := D.ex
  exact C8.met0 c.ins.cl me F b S len (hbody f)
theorem makF {q : Str} {st : Stmt} {N ps : List Str} {k : Nat} {sp : Sp} (c : ClF K mg x C) (D : MetF K C "__init__" q st ps) (S : FnScope N ps (C8.fnScope st))
    (len : ∀ vs H Q E, sp vs H Q E → vs.length = ps.length)
    (hbody : ∀ (f : Addr) (cdv : Value) (A : Around) (outer : List Env) (s : Shared) (H : Hp) (vs : List V) (Q : VK) (E : XK), Room k (A.deeper (envOfC q (C8.fnScope st) s.heap.objs.size f cdv)) → sp vs H Q E →
      ∃ t, PSs (cxOf C8.CX0 P w K mg base N q (C8.fnScope st) f cdv A outer s H E).nox (C8.fnBody st) t ∧ t { nx := fun _ H' => Q .non H', rt := Q } (start N vs) H) : C8.Mak P w K mg base (k + 1) x C sp [] := by
  obtain ⟨f, fd, F, me, b⟩ := D.ex
  exact C8.mak0 ⟨c.makes, me.at_, me.fn, c.kp⟩ c.mgC F b .nil S len (hbody f)
end
end CK
namespace CK
open PySem L2
theorem noA {K : PySem.W.Frag} {mg : Str → Option Value} {x : Str} {C : Addr} (_ : ClF K mg x C) (f : Str) (h : PySem.W.findIn K (.ref C) f = some none) : NoAttr K C f := h
end CK

set_option Elab.async false
set_option linter.all false
set_option maxRecDepth 100000
set_option maxHeartbeats 2000000
/-! texts by their code points -/
namespace CK
open PySem PySem.Spec PyProof.Rows L2 SX
theorem rev_S (z : List Nat) : (⟨((Builtin.Str.strSliceIndices none none (-1) (S z).length).filterMap ((S z).cps[·]?)).toArray⟩ : Str) = S z.reverse := by
  refine TL.ext_tl ?_
  show ((Builtin.Str.strSliceIndices none none (-1) (S z).length).filterMap ((S z).cps[·]?)).toArray.toList = z.reverse
  rw [List.toList_toArray, S_len, picked_rev, filterMap_get, List.map_map]
  · refine List.ext_getElem (by simp) fun i h1 h2 => ?_
    have hi : i < z.length := by simpa using h1
    rw [List.getElem_map, List.getElem_range, List.getElem_reverse]
    show (S z).cps.getD (z.length - 1 - i) 0 = _
    have : z.length - 1 - i < z.length := by omega
    simp [Array.getD, S, this]
  · intro i hi
    obtain ⟨k, hk, rfl⟩ := List.mem_map.mp hi
    have := List.mem_range.mp hk
    show z.length - 1 - k < z.length
    omega
section
variable {X : Cx}
/-- s[::-1] -/
def tRevS (te : TE) : TE := fun σ H Q => te σ H fun x H1 => ∃ z : List Nat, x = .str (S z) ∧ z.length ≤ sizeLine ∧ Q (.str (S z.reverse)) H1
theorem pe_revS {e : Expr} {te : TE} {k : Nat} {p1 p2 p3 pos : Pos} (he : PE X e te) : PE X (.Subscript e (.Slice none none (some (.UnaryOp .USub (.Constant (.int 1) k p1) p2)) p3) pos) (tRevS te) := by
  refine ⟨fun pins s σ H Q I h => ?_⟩
  refine Subscript_ (thn (he.run pins s σ H _ I h) fun v s1 ⟨x, H1, I1, r1, q1⟩ => ?_)
  obtain ⟨z, ex, hz, q⟩ := q1
  subst ex
  obtain ⟨t, rfl⟩ := r1
  have hst : PO X (some (.UnaryOp .USub (.Constant (.int 1) k p1) p2)) (tPart (tUn (rU fun i => .int (-i)) (tC (.int 1)))) := po_some (pe_un un_neg pe_int)
  refine wpAny_Slice (thn (po_none.run pins s1 σ H1 (fun o H2 => o = none ∧ H2 = H1) I1 ⟨rfl, rfl⟩) fun vl s2 ⟨l, H2, I2, pl, el, e2⟩ => ?_)
  subst el e2
  refine thn (po_none.run pins s2 σ H2 (fun o H3 => o = none ∧ H3 = H2) I2 ⟨rfl, rfl⟩) fun vu s3 ⟨u, H3, I3, pu, eu, e3⟩ => ?_
  subst eu e3
  refine thn (hst.run pins s3 σ H3 (fun o H4 => o = some (-1) ∧ H4 = H3) I3 ⟨1, rfl, -1, rfl, rfl, rfl⟩) fun vs s4 ⟨o, H4, I4, ps, eo, e4⟩ => ?_
  subst eo e4
  have I5 : Inv X pins σ H4 { s4 with heap := s4.heap.push { cls := .type "slice", data := .fields #[vl, vu, vs] } } := I4.kept (t' := s4.toks) fun b ob q => Heap.get?_push_of_some _ q
  show wpAny (model X.prog X.w) X.A (subscriptTail e (.Slice none none (some (.UnaryOp .USub (.Constant (.int 1) k p1) p2)) p3) (.str (S z) t) (.ref s4.heap.objs.size)) (EP X pins σ Q) X.xe { s4 with heap := s4.heap.push { cls := .type "slice", data := .fields #[vl, vu, vs] } }
  refine tail_any (ops := [.str (S z) t, .ref s4.heap.objs.size]) (typeIs_str _ _ _) F.slot_str_getitem.lookup ?_ (by with_unfolding_all rfl)
  obtain ⟨l, rfl, el⟩ := IsPart.raw pl
  obtain ⟨u, rfl, eu⟩ := IsPart.raw pu
  obtain ⟨st, rfl, es⟩ := IsPart.raw ps
  refine wpAny_getItem_str_slice (l := l) (u := u) (st := st) ⟨_, Heap.get?_push_size _ rfl, rfl, rfl⟩ (by rw [es]; decide) ?_
  unfold sliceMade slicePicked
  rw [es, el, eu]
  have hr := rev_S z
  show Made.post (.str ⟨((Builtin.Str.strSliceIndices none none (-1) (S z).length).filterMap ((S z).cps[·]?)).toArray⟩) _ _
  rw [hr]
  exact ⟨by rw [S_len, List.length_reverse]; exact hz, .str _, H4, I5.tok _, ⟨_, rfl⟩, q⟩
/-- s * n -/
theorem foldl_arr {α : Type} : ∀ (n : Nat) (w : Array α) (acc : Array α), ((List.replicate n w).foldl (fun a b => a ++ b) acc).toList = acc.toList ++ (List.replicate n w.toList).flatten
  | 0, _, _ => by simp
  | n + 1, w, acc => by
    rw [List.replicate_succ, List.foldl_cons, foldl_arr n w (acc ++ w), List.replicate_succ, List.flatten_cons, Array.toList_append, List.append_assoc]
theorem op_repS : OpR X (binaryOp .Mult) (fun x y H Q => ∃ (z : List Nat) (n : Nat), x = .str (S z) ∧ y = .int n ∧ n ≤ 1000 ∧ z.length ≤ 1000 ∧ Q (.str (S (List.replicate n z).flatten)) H) := by
  intro pins s σ H x y v u Q I rx ry h
  obtain ⟨z, n, rfl, rfl, hn, hz, q⟩ := h
  obtain ⟨t, rfl⟩ := rx
  obtain ⟨t', rfl⟩ := ry
  have hl : (List.replicate n z).flatten.length = n * z.length := by simp
  have hm : n * z.length ≤ 1000 * 1000 := Nat.mul_le_mul hn hz
  refine P.mul_str (by simp; omega) (fun h1 h2 => ?_) (fun h1 h2 => ?_) ?_
  · rw [S_len]
    have hn0 : (0 : Int) < n := by omega
    have h3 : (1000 : Int) ≤ (2 ^ 63 - 1) / (n : Int) := by
      refine (Int.le_ediv_iff_mul_le hn0).mpr ?_
      have : (1000 : Int) * n ≤ 1000 * 1000 := Int.mul_le_mul_of_nonneg_left (by omega) (by decide)
      omega
    omega
  · rw [S_len, Int.toNat_natCast, Nat.mul_comm]
    have : n * z.length ≤ sizeLine := by rw [sizeLine_eq]; omega
    unfold Builtin.Str.tooLong
    simp
    omega
  · by_cases h1 : (n : Int) < 1
    · rw [if_pos h1]
      have e : n = 0 := by omega
      subst e
      exact ⟨by decide, .str _, H, I.tok _, ⟨_, rfl⟩, q⟩
    · rw [if_neg h1]
      by_cases h2 : ((n : Int) == 1 || (S z).length == 0) = true
      · rw [if_pos h2]
        have e : (List.replicate n z).flatten = z := by
          rw [Bool.or_eq_true, beq_iff_eq, beq_iff_eq, S_len] at h2
          rcases h2 with h2 | h2
          · have : n = 1 := by omega
            subst this
            simp
          · rw [List.length_eq_zero_iff.mp h2]
            simp
        rw [e] at q
        exact ⟨.str _, H, I, ⟨_, rfl⟩, q⟩
      · rw [if_neg h2]
        have e : (⟨(List.replicate (n : Int).toNat (S z).cps).foldl (· ++ ·) #[]⟩ : Str) = S (List.replicate n z).flatten := by
          refine TL.ext_tl ?_
          show ((List.replicate (n : Int).toNat (S z).cps).foldl (· ++ ·) #[]).toList = _
          rw [Int.toNat_natCast, foldl_arr]
          rfl
        rw [e]
        exact ⟨by rw [S_len, hl, sizeLine_eq]; omega, .str _, H, I.tok _, ⟨_, rfl⟩, q⟩
/-- a % b, a // b of natural numbers -/
theorem fmodN (k n : Nat) : Int.fmod (k : Int) (n : Int) = ((k % n : Nat) : Int) := by
  rw [Int.fmod_eq_emod_of_nonneg _ (by omega)]
  rfl
theorem op_modZ : OpR X (binaryOp .Mod) (fun x y H Q => ∃ (k n : Nat), x = .int k ∧ y = .int n ∧ n ≠ 0 ∧ Q (.int ((k % n : Nat) : Int)) H) := by
  intro pins s σ H x y v u Q I rx ry h
  obtain ⟨k, n, e1, e2, h0, q⟩ := h
  refine op_modN pins s σ H x y v u Q I rx ry ⟨_, _, e1, e2, by omega, ?_⟩
  rw [← fmodN] at q
  exact q
theorem op_fdivZ : OpR X (binaryOp .FloorDiv) (fun x y H Q => ∃ (k n : Nat), x = .int k ∧ y = .int n ∧ n ≠ 0 ∧ n < 2 ^ 29 ∧ Q (.int ((k / n : Nat) : Int)) H) := by
  intro pins s σ H x y v u Q I rx ry h
  obtain ⟨k, n, e1, e2, h0, h1, q⟩ := h
  refine op_fdivN pins s σ H x y v u Q I rx ry ⟨_, _, e1, e2, ⟨by omega, by omega⟩, ?_⟩
  have : Int.fdiv (k : Int) (n : Int) = ((k / n : Nat) : Int) := by
    rw [Int.fdiv_eq_ediv_of_nonneg _ (by omega)]
    rfl
  rw [← this] at q
  exact q
theorem op_mulZ : OpR X (binaryOp .Mult) (fun x y H Q => ∃ (k n : Nat), x = .int k ∧ y = .int n ∧ k < 2 ^ 1000 ∧ n < 2 ^ 1000 ∧ Q (.int ((k * n : Nat) : Int)) H) := by
  intro pins s σ H x y v u Q I rx ry h
  obtain ⟨k, n, e1, e2, h0, h1, q⟩ := h
  refine op_mulW pins s σ H x y v u Q I rx ry ⟨_, _, e1, e2, wide_mul (a := 1000) (b := 1000) h0 h1 (by decide) (by decide) (by decide), ?_⟩
  rw [Int.natCast_mul] at q
  exact q
/-- len of a list that is tracked (it may stand in a comprehension) -/
theorem call_lenH : CallR X (.builtin "len") (fun xs H Q => ∃ (p : Addr) (ys : List V), xs = [.ref p] ∧ H p = some (.lst ys) ∧ Q (.int (ys.length : Nat)) H) := by
  intro pins s σ H xs us Q I r h
  obtain ⟨p, ys, e, hp, q⟩ := h
  exact call_len_seq pins s σ H xs us Q I r ⟨p, ys, e, .inl (.inl (.inl hp)), q⟩
end
end CK

set_option Elab.async false
set_option linter.all false
set_option maxRecDepth 100000
set_option maxHeartbeats 2000000
/-! any of a tuple of numbers -/
namespace CK
open PySem PySem.Spec PyProof.Rows L2 SX
theorem plain_ints : ∀ ns : List Int, PyData.plainAll (ns.map PyData.int) = true
  | [] => by simp [PyData.plainAll]
  | n :: ns => by
    rw [List.map_cons, PyData.plainAll, plain_ints ns]
    simp [PyData.plain]
theorem any_ints (ns : List Nat) : ((ns.map fun n : Nat => ((n : Nat) : Int)).map PyData.int).any PyData.truthy = ns.any fun x => decide (x ≠ 0) := by
  induction ns with
  | nil => rfl
  | cons n ns ih =>
    rw [List.map_cons, List.map_cons, List.any_cons, List.any_cons, ih]
    congr 1
    show ((n : Int) != 0) = decide (n ≠ 0)
    by_cases h : n = 0
    · subst h
      rfl
    · rw [decide_eq_true h, bne_iff_ne]
      omega
section
variable {X : Cx}
theorem cr_anyN (hc : X.calm = true) : CallR X (.builtin "any") (fun vs H Q => ∃ (a : Addr) (ns : List Nat), vs = [V.ref a] ∧ H a = some (.tup (ns.map fun n : Nat => V.int (n : Nat))) ∧ Q (.bl (ns.any fun x => decide (x ≠ 0))) H) := by
  intro pins s σ H vs us Q I r h
  obtain ⟨a, ns, rfl, ha, q⟩ := h
  obtain ⟨its, rv, hT, _⟩ := I.tuple (.inl (.inl ha))
  rw [Vals.ref1 r]
  have e : (ns.map fun n : Nat => V.int (n : Nat)) = (ns.map fun n : Nat => ((n : Nat) : Int)).map V.int := by
    rw [List.map_map]
    rfl
  rw [e] at rv
  obtain ⟨as, hr⟩ := Dp.readsAll I _ _ its (dpAll_ints _) rv
  refine PySem.W.any_tuple_data (I.ok.hd hc) hT (by rw [List.toList_toArray]; exact hr) (plain_ints _) (fun x hx => ?_) fun h' tk hk => ?_
  · obtain ⟨i, _, rfl⟩ := List.mem_map.mp hx
    trivial
  · rw [any_ints]
    exact ⟨.bl _, H, I.kept (t' := tk) hk, rfl, q⟩
end
end CK
namespace CK
open PySem PySem.Spec PyProof.Rows L2 SX
section
variable {X : Cx}
/-- a whole number and a Boolean -/
theorem op_addB : OpR X (binaryOp .Add) (fun x y H Q => ∃ (i : Int) (b : Bool), x = .int i ∧ y = .bl b ∧ Q (.int (i + if b = true then (1 : Int) else 0)) H) := by
  intro pins s σ H x y v u Q I rx ry h
  obtain ⟨i, b, rfl, rfl, q⟩ := h
  obtain ⟨t, rfl⟩ := rx
  obtain rfl : u = Value.bool b := ry
  exact add_int_bool ⟨.int _, H, I.tok _, ⟨_, rfl⟩, q⟩
end
end CK
namespace CK
open PySem PySem.Spec PyProof.Rows L2 SX
theorem vals_of_get : ∀ (vs : List V) (us : List Value), us.length = vs.length → (∀ (j : Nat) (v : V) (u : Value), vs[j]? = some v → us[j]? = some u → RelV v u) → Vals vs us
  | [], [], _, _ => .nil
  | [], _ :: _, h, _ => by simp at h
  | _ :: _, [], h, _ => by simp at h
  | v :: vs, u :: us, h, g => .cons (g 0 v u rfl rfl) (vals_of_get vs us (by simpa using h) fun j a b ha hb => g (j + 1) a b (by simpa using ha) (by simpa using hb))
section
variable {X : Cx}
/-- list(text): its letters -/
theorem call_listS (hc : X.calm = true) : CallR X (.type "list") (fun xs H Q => ∃ z : List Nat, xs = [.str (S z)] ∧ z.length ≤ 1000000 ∧ ∀ l, H l = none → Q (.ref l) (upd H l (.lst (z.map fun c => V.str (S [c]))))) := by
  intro pins s σ H xs us Q I r h
  obtain ⟨z, rfl, hz, q⟩ := h
  obtain ⟨u, rfl, rx⟩ := vals1 r
  obtain ⟨t, rfl⟩ := rx
  have sz : (S z).cps.size = z.length := S_len z
  refine call_list_str (I.ok.hd hc) (S z) t (fun h' tk acc' c' hk hS hacc => ?_) (by rw [sz, sizeLine_eq]; omega)
  refine ⟨.ref s.heap.objs.size, upd H s.heap.objs.size (.lst (z.map fun c => V.str (S [c]))), I.laid (t' := tk) hk (Nat.le_refl _) ?_, rfl, q _ (I.hok.fresh (Nat.le_refl _))⟩
  refine ⟨by rw [List.length_map, sizeLine_eq]; omega, acc'.toList, c', vals_of_get _ _ (by rw [List.length_map, Array.length_toList, hacc.1, sz]) fun j v u hv hu => ?_, by simpa using hS⟩
  obtain ⟨c, tt, hc', rfl⟩ := hacc.2 j u (by simpa using hu)
  rw [List.getElem?_map] at hv
  have e : z[j]? = some c := by
    have : (S z).cps[j]? = some c := hc'
    simpa [S] using this
  rw [e] at hv
  cases hv
  exact ⟨tt, rfl⟩
end
end CK
namespace CK
open PySem PySem.Spec PyProof.Rows L2 SX
section
variable {X : Cx} {o e : Expr} {es : List Expr} {to : TE} {t : TA} {name : Str} {apos cpos : Pos} {T id : String} {r : V → List V → Hp → VK → Prop}
/-- a built-in's method, where the written part is told apart (it may stand in a comprehension) -/
theorem pe_bmB {K : PySem.W.Frag} (hK : X.K = K) (pa : PlainAttrs T) (slot : Slot T name id) (hty : typeOf (.builtin id) = pure (.type "method_descriptor")) (hm : MtR X id r) (ho : PE X o to) (ha : PA X (e :: es) t)
    (hb : attributeBase o name X.env (eval o X.env) = eval o X.env := by rfl)
    (hf : ((backTo cpos (starEach (e :: es) X.env)).all (fun x => !x.1) && (backToKw cpos (keywordEach [] X.env)).all (fun x => x.1.isSome) && decide ((e :: es).length + ([] : List Keyword).length + (if ([] : List Keyword).isEmpty then 0 else 1) < 30)) = true := by rfl)
    (hl : (apos.endLine == cpos.line) = true := by rfl) (hs : starEach (e :: es) X.env = (false, eval e X.env) :: starEach es X.env := by rfl) (hp : (backTo cpos (starEach es X.env)).any (·.1) = false := by rfl) :
    PE X (.Call (.Attribute o name apos) (e :: es) [] cpos) (tBM K T r to t) := by
  subst hK
  exact pe_bm pa slot hty hm ho ha hb hf hl hs hp
end
end CK

set_option Elab.async false
set_option linter.all false
set_option maxRecDepth 100000
set_option maxHeartbeats 2000000
/-! defs that are called with no repr under way; repr of data -/
namespace CK
open PySem PySem.Spec PyProof.Rows L2
/-- what a def promises where no repr is under way -/
structure FnG (P : Program) (w : World) (K : PySem.W.Frag) (mg : Str → Option Value) (base : Heap) (k : Nat) (f : Addr) (fd : FuncData) (ps : List Str) (sp : Sp) : Prop where
  len : ∀ vs H Q E, sp vs H Q E → vs.length = ps.length
  go : ∀ (A : Around) (outer : List Env) (z : Shared) (H : Hp) (args : Args) (us : List Value) (vs : List V) (Q : VK) (E : XK), Room k A → A.guards = some [] → Env0 P w K mg base A outer z H → BindsTo z fd args (ps.zip us) →
    Vals vs us → sp vs H Q E → codeAny (model P w) A (.call (.ref f) args) (CR C8.CX0 outer P w H z Q E) z
theorem FnG.of {P : Program} {w : World} {K : PySem.W.Frag} {mg : Str → Option Value} {base : Heap} {k : Nat} {f : Addr} {fd : FuncData} {ps : List Str} {sp : Sp} (F : FnOk P w K mg base C8.CX0 k f fd ps sp) : FnG P w K mg base k f fd ps sp :=
  ⟨F.len, fun A outer z H args us vs Q E hr _ e0 hb r h => F.run A outer z H args us vs Q E hr e0 hb r h⟩
theorem fnG_of {P : Program} {w : World} {K : PySem.W.Frag} {mg : Str → Option Value} {base : Heap} {k : Nat} {f : Addr} {x : Str} {st : Stmt} {fd : FuncData} {N ps : List Str} {sp : Sp} (F : C8.Fun K x x st f fd) (S : FnScope N ps (C8.fnScope st))
    (len : ∀ vs H Q E, sp vs H Q E → vs.length = ps.length)
    (body : ∀ (cdv : Value) (A : Around) (outer : List Env) (z : Shared) (H : Hp) (vs : List V) (Q : VK) (E : XK), Room k (A.deeper (envOfC x (C8.fnScope st) z.heap.objs.size f cdv)) → A.guards = some [] → sp vs H Q E →
      ∃ t, PSs (cxOf C8.CX0 P w K mg base N x (C8.fnScope st) f cdv A outer z H E).nox (C8.fnBody st) t ∧ t { nx := fun _ H' => Q .non H', rt := Q } (start N vs) H) : FnG P w K mg base (k + 1) f fd ps sp := by
  obtain ⟨_, _, _, _, _, _, _, cdv, _, _, rfl, lk, hc⟩ := F.ex
  refine ⟨len, fun A outer z H args us vs Q E room gd en bnd va want => ?_⟩
  have ln := len _ _ _ _ want
  have up : ∀ b o, base.get? b = some o → z.heap.get? b = some o := fun b o e => (en.bs b o e).1
  have inK : K.In z.heap := en.mod.kin.keeps up
  have kinds : ∀ y ∈ ps.zip us, (C8.fnScope st).names.lookup y.1 = some .local ∨ ((C8.fnScope st).names.lookup y.1 = some .cell ∧ ((cellsFrom (z.heap.objs.size + 1) (C8.fnScope st).names []).lookup y.1).isSome = true) := by
    intro y hy
    have := S.par y.1 (List.of_mem_zip (a := y.1) (b := y.2) hy).1
    cases this with
    | inl a => exact .inl a
    | inr a => exact .inr ⟨a, PySem.W.cellsFrom_some _ _ _ (.inl a)⟩
  refine codeAny_call_function room.depth (inK _ _ lk) rfl S.co S.gen rfl (PySem.W.codeRec_of inK hc) (bnd _ _ _ _ (wpAny_newFunctionEnv_cells S.kind kinds fun env he z1 call => ?_))
  subst he
  refine ⟨(en.mod.nolimit.keeps up).keeps call.toInCall.keep, codeAny_func ?_⟩
  obtain ⟨t, ht, ok⟩ := body cdv A outer z H vs Q E (room.deeper _) gd want
  refine wpAny_mono (ht.nox.run [] z1 (start N vs) H _ (inv_start S room.hd en ln va call) ok) (fun fl z' got => ?_) fun e z' got => got
  have last : ∀ {σ' : L2.St} {H' : Hp} {v : V} {u : Value}, Inv (cxOf C8.CX0 P w K mg base N x (C8.fnScope st) f cdv A outer z H E) [] σ' H' z' → RelV v u → Q v H' → CE outer P w H z Q u z' :=
    fun {_ H' v _} J a b => ⟨v, H', J.os, J.bare, J.base, J.hok, a, b⟩
  cases fl with
  | ret u =>
    obtain ⟨v, _, H', J, a, b⟩ := got
    exact last J a b
  | next =>
    obtain ⟨_, H', J, b⟩ := got
    exact last (v := V.non) (u := Value.none) J rfl b
  | brk => exact got.choose_spec.choose_spec.2.elim
  | cont => exact got.choose_spec.choose_spec.2.elim
/-- a def by its name -/
structure CalG (P : Program) (w : World) (K : PySem.W.Frag) (mg : Str → Option Value) (base : Heap) (k : Nat) (x : Str) (sp : Sp) : Prop where
  ex : ∃ (f : Addr) (fd : FuncData) (ps : List Str), FnG P w K mg base k f fd ps sp ∧ mg x = some (.ref f) ∧ PySem.W.keepIn K (.ref f) = true ∧ Binds K fd ps []
theorem calG {P : Program} {w : World} {K : PySem.W.Frag} {mg : Str → Option Value} {base : Heap} {x : Str} {st : Stmt} {N ps : List Str} {k : Nat} {sp : Sp} (D : DefF K mg x st ps) (S : FnScope N ps (C8.fnScope st))
    (len : ∀ vs H Q E, sp vs H Q E → vs.length = ps.length)
    (body : ∀ (f : Addr) (cdv : Value) (A : Around) (outer : List Env) (z : Shared) (H : Hp) (vs : List V) (Q : VK) (E : XK), Room k (A.deeper (envOfC x (C8.fnScope st) z.heap.objs.size f cdv)) → A.guards = some [] → sp vs H Q E →
      ∃ t, PSs (cxOf C8.CX0 P w K mg base N x (C8.fnScope st) f cdv A outer z H E).nox (C8.fnBody st) t ∧ t { nx := fun _ H' => Q .non H', rt := Q } (start N vs) H) : CalG P w K mg base (k + 1) x sp := by
  obtain ⟨f, fd, F, b⟩ := D.ex
  exact ⟨f, fd, ps, fnG_of F.fn S len (body f), F.mgf, F.kp, .all b⟩
section
variable {X : Cx} {k j : Nat} {x : Str} {sp : Sp} {p pos : Pos} {e : Expr} {es : List Expr} {t : TA}
theorem run_fnG {pins : List (Addr × Obj)} {σ : L2.St} {H : Hp} {z : Shared} {Q : VK} {us : List Value} {vs : List V} {f : Addr} {fd : FuncData} {ps : List Str} (F : FnG X.prog X.w X.K X.mg X.base k f fd ps sp) (room : Room k X.A) (gd : X.A.guards = some [])
    (b : Binds X.K fd ps []) (I : Inv X pins σ H z) (r : Vals vs us) (h : sp (vs ++ []) H Q E0) : wpAny (model X.prog X.w) X.A (call (.ref f) us) (EP X pins σ Q) X.xe z := by
  rw [List.append_nil] at h
  have ll : (us ++ []).length = ps.length := by
    rw [List.append_nil, ← r.length]
    exact F.len _ _ _ _ h
  have bb := b z us I.kIn ll
  rw [List.append_nil] at bb
  refine wpAny_call (codeAny_mono (F.go X.A X.stack z H ⟨us, []⟩ us vs Q E0 room gd I.env0 bb r h) fun res z' got => ?_)
  match res, got with
  | .ok (.ret u), got => exact I.after got
  | .error e, got => exact pass0 pins σ H z e z' I got
theorem pe_cG (c : CalG X.prog X.w X.K X.mg X.base k x sp) (hr : Room j X.A) (gd : X.A.guards = some []) (hk : k ≤ j) (hg : Gl X x) (ha : PA X (e :: es) t)
    (hdb : (x == ("__debug__" : Str)) = false := by decide) (he : starEach (e :: es) X.env = (false, eval e X.env) :: starEach es X.env := by rfl) (hpl : (backTo pos (starEach es X.env)).any (·.1) = false := by rfl) :
    PE X (.Call (.Name x p) (e :: es) [] pos) (tCall sp [] E0 t) := by
  obtain ⟨f, fd, ps, F, hm, kp, b⟩ := c.ex
  refine ⟨fun pins s σ H Q I h => wpAny_Call_Name_kw (ld_glob I hg hm ?_ hdb)⟩
  exact PySem.W.callWith_K (h₀ := X.base) I.ok.mod.kin kp (thn (ha.run pos pins s σ H _ I h) fun us s1 ⟨vs, H1, I1, r, q⟩ => ⟨I1.kIn, run_fnG F (hr.mono hk) gd b I1 r q⟩) he hpl
theorem pe_cG0 (c : CalG X.prog X.w X.K X.mg X.base k x sp) (hr : Room j X.A) (gd : X.A.guards = some []) (hk : k ≤ j) (hg : Gl X x)
    (hdb : (x == ("__debug__" : Str)) = false := by decide) :
    PE X (.Call (.Name x p) [] [] pos) (tCall sp [] E0 tNil) := by
  obtain ⟨f, fd, ps, F, hm, kp, b⟩ := c.ex
  refine ⟨fun pins s σ H Q I h => wpAny_Call_Name_kw (ld_glob I hg hm ?_ hdb)⟩
  exact PySem.W.callWith_K0 I.kIn kp (run_fnG (us := []) F (hr.mono hk) gd b I .nil h)
/-- repr of data -/
theorem call_repr (hr : Room j X.A) (gd : X.A.guards = some []) : CallR X (.builtin "repr") (fun xs H Q => ∃ (v : V) (d : PyData), xs = [v] ∧ Dp X.K H v d ∧ d.showable = true ∧ d.hasDict = false ∧ d.depth ≤ 60 ∧ d.shown.length ≤ sizeLine ∧ Q (.str d.shown) H) := by
  intro pins s σ H xs us Q I r h
  obtain ⟨v, d, rfl, dp, hs, hd, hdep, hz, q⟩ := h
  obtain ⟨u, rfl, rx⟩ := vals1 r
  obtain ⟨as, rd⟩ := Dp.reads I d v u dp rx
  have hu := hr.units
  have fin : ∀ (a : Addr) (d : PyData), Reads s.heap (.ref a) d as → d.showable = true → d.hasDict = false → d.depth ≤ 60 → d.shown.length ≤ sizeLine → Q (.str d.shown) H →
      wpAny (model X.prog X.w) X.A (call (.builtin "repr") [.ref a]) (EP X pins σ Q) X.xe s := fun a d rd hs hd hdep hz q =>
    repr_of_reads' rd hs (PyData.noDict_hsm hd) gd (by omega) (fun _ _ e => e) (fun h' u tk hk => ⟨.str _, H, I.kept (t' := tk) hk, ⟨u, rfl⟩, q⟩) hz
  cases rd with
  | none => exact PySem.P.repr_of_none ⟨.str _, H, I.tok _, ⟨_, rfl⟩, by simpa only [PyData.shown] using q⟩
  | bool b => exact PySem.P.repr_of_bool ⟨.str _, H, I.tok _, ⟨_, rfl⟩, by simpa only [PyData.shown] using q⟩
  | int i t => exact PySem.P.repr_of_int (by simpa [PyData.showable] using hs) ⟨.str _, H, I.tok _, ⟨_, rfl⟩, by simpa only [PyData.shown] using q⟩
  | str y t => exact PySem.P.repr_of_str ⟨.str _, H, I.tok _, ⟨_, rfl⟩, by simpa only [PyData.shown] using q⟩ (by simpa only [PyData.shown] using hz)
  | list a b c e => exact fin _ _ (.list a b c e) hs hd hdep hz q
  | tuple a b c e => exact fin _ _ (.tuple a b c e) hs hd hdep hz q
  | dict a b c e g => exact fin _ _ (.dict a b c e g) hs hd hdep hz q
end
end CK

set_option Elab.async false
set_option linter.all false
set_option maxRecDepth 100000
set_option maxHeartbeats 2000000
/-! the law's end, where no repr is under way -/
namespace CK
open PySem PySem.Spec PyProof.Rows L2
theorem DefF.oneG {K : PySem.W.Frag} {mg : Str → Option Value} {x p : Str} {st : Stmt} (D : DefF K mg x st [p]) : ∃ (f : Addr) (fd : FuncData), mg x = some (.ref f) ∧ (∀ (s : Shared) (v : Value), BindsTo s fd ⟨[v], []⟩ [(p, v)]) ∧
    ∀ {P : Program} {w : World} {base : Heap} {N : List Str} {k : Nat} {sp : Sp} (S : FnScope N [p] (C8.fnScope st)) (len : ∀ vs H Q E, sp vs H Q E → vs.length = 1)
      (body : ∀ (cdv : Value) (A : Around) (outer : List Env) (z : Shared) (H : Hp) (vs : List V) (Q : VK) (E : XK), Room k (A.deeper (envOfC x (C8.fnScope st) z.heap.objs.size f cdv)) → A.guards = some [] → sp vs H Q E →
        ∃ t, PSs (cxOf C8.CX0 P w K mg base N x (C8.fnScope st) f cdv A outer z H E).nox (C8.fnBody st) t ∧ t { nx := fun _ H' => Q .non H', rt := Q } (start N vs) H), FnG P w K mg base (k + 1) f fd [p] sp := by
  obtain ⟨f, fd, F, b⟩ := D.ex
  exact ⟨f, fd, F.mgf, fun s v => .of_eq (b [v] rfl), fun S len body => fnG_of F.fn S len body⟩
section
variable {P : Program} {w : World} {K : PySem.W.Frag} {mg mb : Str → Option Value} {k : Nat} {fa a : Addr} {fd : FuncData} {x : Str} {sp : Sp} {z : Shared} {vs : List Value} {ns : List Int}
/-- from an abstract heap H that tracks the script at most -/
theorem callG_at (inK : K.In z.heap) (gl : z.heap.Ns mainGlobals mg) (bl : z.heap.Ns builtinsNs mb) (bb : ∀ x : Str, x ≠ "__name__" → mb x = bootBuiltins x) (lim : z.heap.NoLimit) (gens : z.gens = #[])
    (scr : z.heap.get? a = some { cls := .type "list", data := .seq vs.toArray }) (room : Room k callerA)
    (F : ∀ base : Heap, K.In base → base.Ns mainGlobals mg → FnG P w K mg base k fa fd [x] sp) (bind : ∀ (s : Shared) (u : Value), BindsTo s fd ⟨[u], []⟩ [(x, u)])
    (H : Hp) (only : Only H) (want : sp [.ref a] H (fun v _ => v = .bl true) fun _ _ _ => False) (hok : HOk P w H z.heap) (alone : ∀ b, H b ≠ none → b = a) (apart : H a ≠ none → K.lookup a = none) :
    codeAny (model P w) callerA (.call (.ref fa) ⟨[.ref a], []⟩) (fun r s' => r = .ok (.ret (.bool true)) ∧ OldK z.heap s'.heap ∧ s'.os = z.os ∧ AllBare s'.gens) z := by
  have isA : ∀ {b : Addr} {u : HO}, H b = some u → b = a := fun {b u} e => alone b fun n => by rw [n] at e; cases e
  have hid : ∀ {b : Addr} {m : Str → Option Value}, z.heap.Ns b m → (hidT z.heap H).Ns b m := by
    intro b m h
    obtain ⟨o, es, ep, e, dt, rest⟩ := h
    refine ⟨o, es, ep, hidT_get e ?_, dt, rest⟩
    match q : H b with
    | none => rfl
    | some u =>
      rw [isA q, scr] at e
      cases e
      exact absurd dt (fun y => by cases y)
  have inB : K.In (hidT z.heap H) := by
    intro b o e
    refine hidT_get (inK b o e) ?_
    match q : H b with
    | none => rfl
    | some u =>
      have ba := isA q
      subst ba
      rw [apart (by rw [q]; exact fun y => by cases y)] at e
      exact absurd e (fun y => by cases y)
  obtain ⟨mc, l1, l2⟩ := lim
  have md : Mod K mg (hidT z.heap H) := ⟨inB, hid gl, ⟨mb, hid bl, bb⟩, ⟨mc, hid l1, l2⟩⟩
  have en : Env0 P w K mg (hidT z.heap H) callerA [] z H :=
    { frames := rfl, mod := md, bs := fun b o e => of_hidT e, bsz := Nat.le_of_eq (hidT_size _ _), funs := trivial, frf := fun b hb => absurd (show b ∈ ([] : List Addr) from hb) List.not_mem_nil, hok := hok, bare := .of_eq gens }
  refine codeAny_mono ((F _ inB (hid gl)).go callerA [] z H ⟨[.ref a], []⟩ [.ref a] [.ref a] _ _ room rfl en (bind z (.ref a)) (.cons rfl .nil) want) fun r s' got => ?_
  match r, got with
  | .ok (.ret u), got =>
    obtain ⟨v, H', os, bare, un, hok', rv, q⟩ := got
    have q : v = .bl true := q
    subst q
    have eu : u = Value.bool true := rv
    subst eu
    refine ⟨rfl, OldK.of_keep fun b o e => ?_, os, bare⟩
    match q : H b with
    | none => exact un.keep b o e q (fun y => absurd (show b ∈ ([] : List Addr) from y) List.not_mem_nil) List.not_mem_nil
    | some u =>
      obtain y | ⟨ob, xs, y⟩ := only b
      · exact absurd (q.symm.trans y) (fun y => by cases y)
      · have o1 := (hok b _ y).1
        have o2 := (hok' b _ (un.frzs b ob _ y)).1
        rw [e] at o1
        rw [Option.some.inj o1]
        exact o2
  | .error e, got => exact absurd got (fun y => nomatch y)
theorem callG (inK : K.In z.heap) (gl : z.heap.Ns mainGlobals mg) (bl : z.heap.Ns builtinsNs mb) (bb : ∀ x : Str, x ≠ "__name__" → mb x = bootBuiltins x) (lim : z.heap.NoLimit) (gens : z.gens = #[])
    (scr : z.heap.get? a = some { cls := .type "list", data := .seq vs.toArray }) (nums : IntsAre vs ns) (len : ns.length ≤ sizeLine) (room : Room k callerA)
    (F : ∀ base : Heap, K.In base → base.Ns mainGlobals mg → FnG P w K mg base k fa fd [x] sp) (bind : ∀ (s : Shared) (u : Value), BindsTo s fd ⟨[u], []⟩ [(x, u)])
    (want : ∀ H : Hp, Only H → SqL K H a (ns.map V.int) → sp [.ref a] H (fun v _ => v = .bl true) fun _ _ _ => False) :
    codeAny (model P w) callerA (.call (.ref fa) ⟨[.ref a], []⟩) (fun r s' => r = .ok (.ret (.bool true)) ∧ OldK z.heap s'.heap ∧ s'.os = z.os ∧ AllBare s'.gens) z := by
  have vals := vals_ints nums
  match look : K.lookup a with
  | some o =>
    have e := inK a o look
    rw [scr] at e
    obtain rfl := Option.some.inj e
    refine callG_at inK gl bl bb lim gens scr room F bind (fun _ => none) (fun _ => .inl rfl) (want _ (fun _ => .inl rfl) (.inr ?_)) (fun b u y => absurd y (fun q => by cases q)) (fun b y => absurd rfl y) (fun y => absurd rfl y)
    exact ⟨_, vs.toArray, _, look, rfl, rfl, rfl, by rw [List.size_toArray, nums.length]; exact len, by simpa using vals⟩
  | none =>
    have at_ : ∀ b, (if b = a then some (HO.frz { cls := .type "list", data := .seq vs.toArray } (.lst (ns.map V.int))) else none) ≠ none → b = a := fun b y => by
      by_cases e : b = a
      · exact e
      · rw [if_neg e] at y
        exact absurd rfl y
    have only : Only fun b => if b = a then some (HO.frz { cls := .type "list", data := .seq vs.toArray } (.lst (ns.map V.int))) else none := fun b => by
      by_cases e : b = a
      · exact .inr ⟨_, _, if_pos e⟩
      · exact .inl (if_neg e)
    refine callG_at inK gl bl bb lim gens scr room F bind _ only (want _ only (.inl (.inr ⟨_, if_pos rfl⟩))) (fun b u y => ?_) at_ fun _ => look
    have e := at_ b (fun q => by have := q.symm.trans y; cases this)
    subst e
    have y' := (if_pos rfl).symm.trans y
    obtain rfl := Option.some.inj y'
    exact ⟨scr, by rw [List.length_map]; exact len, vs, _, vals, scr⟩
end
/-- what k_head leaves, from the law's promise -/
theorem walkG {l : PySem.W.OpenLaw} {n k : Nat} {q : Program} {loose : List Str} {XP : (Str → Option Value) → Heap → Prop} {YP : World → Heap → Prop} {d : DefRec} {K : Params → PySem.W.Frag} {sp : World → Sp} {x : Str}
    (most : l.most = some n) (small : n ≤ sizeLine) (plain : d.params.defaults = []) (room : Room k callerA) (inK : ∀ (w : World) (h : Heap), YP w h → (K w.params).In h)
    (F : ∀ (w : World) (mg : Str → Option Value) (fa : Addr) (h : Heap), (K w.params).In h → h.Ns mainGlobals mg → mg d.name = some (.ref fa) → ∃ fd : FuncData,
      (∀ (s : Shared) (u : Value), BindsTo s fd ⟨[u], []⟩ [(x, u)]) ∧ ∀ base : Heap, (K w.params).In base → base.Ns mainGlobals mg → FnG l.prog w (K w.params) mg base k fa fd [x] (sp w))
    (want : ∀ (w : World) (H : Hp) (a : Addr) (ns : List Int), ns.length ≤ n → Only H → SqL (K w.params) H a (ns.map V.int) → sp w [.ref a] H (fun v _ => v = .bl true) fun _ _ _ => False) :
    PySem.W.WalkO q loose XP YP l.row.toRowW d [] (fun f vs => PySem.call f vs) := by
  refine Att.attach_call most plain fun w _ z mg mb fa _ _ _ _ a vs ns G Y _ _ _ hmg scr nums hl gens => ?_
  have h1 := inK w _ Y
  obtain ⟨fd, bind, hF⟩ := F w mg fa _ h1 G.T.g hmg
  exact callG h1 G.T.g G.T.b G.T.builtins G.T.nolimit gens scr nums (Nat.le_trans hl small) room hF bind fun H hO hS => want w H a ns hl hO hS
end CK

set_option Elab.async false
set_option linter.all false
set_option maxRecDepth 100000
set_option maxHeartbeats 2000000
/-! comprehensions with a test; equality of data made of whole numbers -/
namespace CK
open PySem PySem.Spec PyProof.Rows L2
/-- n turns, each kept if b i, giving f i, leaving all that was tracked -/
theorem lc_filtW {J : It} {n : Nat} {G : Hp → Prop} {Y : Nat → Hp → V → Hp → Prop} (w : Walk J n G Y) {g : TG} {tt : TT} {te : TE} {vs : List Nat} {σ : L2.St} {H1 : Hp} {D : Addr} {Qd : Hp → Prop} (b : Nat → Bool) (f : Nat → V) (hn : n < sizeLine)
    (hG : ∀ H, Same H1 H → G H)
    (hs : ∀ (i : Nat) (x : V) (H H' : Hp) (R : VK) (R0 : Hp → Prop), i < n → Same H1 H → Y i H x H' → (b i = true → ∀ H'', Same H H'' → R (f i) H'') → (b i = false → ∀ H'', Same H H'' → R0 H'') →
      g x (wipe σ vs) H' fun σ2 H2 => wipe σ2 vs = wipe σ vs ∧ tt σ2 H2 fun c H3 => if c = true then te σ2 H3 R else R0 H3)
    (hD : H1 D = none) (hd : ∀ H : Hp, Same H1 H → H D = some (.lst (((List.range n).filter b).map f)) → Qd H) :
    ∃ W : Nat → Nat → Hp → Prop, (∃ m, W 0 m (upd H1 D (.lst []))) ∧ ∀ i m H, W i m H →
      (J.stop i H ∧ Qd H) ∨ (J.go i H ∧ ∃ Nx : Hp → Prop, (∀ H', Nx H' → ∃ m', m' < m ∧ W (i + 1) m' H') ∧ ∀ x H', J.yld i H x H' → g x (wipe σ vs) H' fun σ2 H2 => wipe σ2 vs = wipe σ vs ∧ tt σ2 H2 fun b H3 =>
        if b = true then te σ2 H3 fun y H4 => ∃ acc, H4 D = some (.lst acc) ∧ acc.length < sizeLine ∧ Nx (upd H4 D (.lst (acc ++ [y]))) else Nx H3) := by
  refine lc_it w (fun i H => Same H1 H ∧ H D = some (.lst (((List.range i).filter b).map f)) ∧ i ≤ n) ⟨sameNew hD, upd_same, Nat.zero_le _⟩ (fun i H _ p => hG H p.1) (fun i x H H' hi p y => ?_) fun H p => hd H p.1 p.2.1
  refine hs i x H H' _ _ hi p.1 y (fun hb H'' s => ?_) fun hb H'' s => ?_
  · refine ⟨_, s D _ p.2.1, ?_, same_upd2 hD (p.1.trans s), ?_, hi⟩
    · have := List.length_filter_le b (List.range i)
      rw [List.length_range] at this
      rw [List.length_map]
      omega
    · rw [upd_same, List.range_succ, List.filter_append, List.map_append, List.filter_cons_of_pos hb]
      rfl
  · refine ⟨p.1.trans s, ?_, hi⟩
    rw [s D _ p.2.1, List.range_succ, List.filter_append, List.filter_cons_of_neg (by rw [hb]; exact Bool.false_ne_true), List.filter_nil, List.append_nil]
theorem filt_nil (b : Nat → Bool) (f : Nat → V) (n : Nat) : ((List.range n).filter b).map f = [] ↔ ∀ i, i < n → b i = false := by
  rw [List.map_eq_nil_iff, List.filter_eq_nil_iff]
  constructor
  · intro h i hi
    have := h i (List.mem_range.mpr hi)
    simpa using this
  · intro h i hi
    rw [h i (List.mem_range.mp hi)]
    exact Bool.false_ne_true
/-- over zip -/
theorem lcZ_filt {K : PySem.W.Frag} {k k' : Kd} {a c : Addr} {xs ys : List V} {i1 i2 : Nat} {tt : TT} {te : TE} {vs : List Nat} {σ : L2.St} {H1 : Hp} {D : Addr} {Qd : Hp → Prop} (b : Nat → Bool) (f : Nat → V) (hl : xs.length = ys.length) (hn : xs.length < sizeLine)
    (ha : ∀ H, Same H1 H → SqB K k H a xs ∧ SqB K k' H c ys)
    (hs : ∀ (i : Nat) (x y : V) (H : Hp) (R : VK) (R0 : Hp → Prop), xs[i]? = some x → ys[i]? = some y → Same H1 H → (b i = true → ∀ H', Same H H' → R (f i) H') → (b i = false → ∀ H', Same H H' → R0 H') →
      wipe (((wipe σ vs).set i1 (some x)).set i2 (some y)) vs = wipe σ vs ∧ tt (((wipe σ vs).set i1 (some x)).set i2 (some y)) H fun c H3 => if c = true then te (((wipe σ vs).set i1 (some x)).set i2 (some y)) H3 R else R0 H3)
    (hD : H1 D = none) (hd : ∀ H : Hp, Same H1 H → H D = some (.lst (((List.range xs.length).filter b).map f)) → Qd H) :
    ∃ W : Nat → Nat → Hp → Prop, (∃ m, W 0 m (upd H1 D (.lst []))) ∧ ∀ i m H, W i m H →
      ((ItB K k k' a c).stop i H ∧ Qd H) ∨ ((ItB K k k' a c).go i H ∧ ∃ Nx : Hp → Prop, (∀ H', Nx H' → ∃ m', m' < m ∧ W (i + 1) m' H') ∧ ∀ x H', (ItB K k k' a c).yld i H x H' → gTup K 2 (gCons (gName i1) (gCons (gName i2) gNil)) x (wipe σ vs) H' fun σ2 H2 => wipe σ2 vs = wipe σ vs ∧ tt σ2 H2 fun b H3 =>
        if b = true then te σ2 H3 fun y H4 => ∃ acc, H4 D = some (.lst acc) ∧ acc.length < sizeLine ∧ Nx (upd H4 D (.lst (acc ++ [y]))) else Nx H3) := by
  refine lc_filtW (walkB (K := K) (k := k) (k' := k') (a := a) (b := c) hl) b f hn ha (fun i v H H' R R0 hi s y q q0 => ?_) hD hd
  obtain ⟨T, x, y, rfl, hT, rfl, hx, hy⟩ := y
  have hx : xs[i]? = some x := hx
  have hy : ys[i]? = some y := hy
  have st : Same H (upd H T (.tup [x, y])) := sameNew hT
  exact ⟨T, [x, y], rfl, .inl (.inl upd_same), rfl, x, [y], rfl, y, [], rfl, rfl, hs i x y _ R R0 hx hy (s.trans st) (fun hb H'' s' => q hb H'' (st.trans s')) fun hb H'' s' => q0 hb H'' (st.trans s')⟩
/-- over a list -/
theorem lcL_filt {K : PySem.W.Frag} {a : Addr} {xs : List V} {j : Nat} {tt : TT} {te : TE} {vs : List Nat} {σ : L2.St} {H1 : Hp} {D : Addr} {Qd : Hp → Prop} (b : Nat → Bool) (f : Nat → V) (ha : ∀ H, Same H1 H → SqL K H a xs) (hn : xs.length < sizeLine)
    (hs : ∀ (i : Nat) (x : V) (H : Hp) (R : VK) (R0 : Hp → Prop), xs[i]? = some x → Same H1 H → (b i = true → ∀ H', Same H H' → R (f i) H') → (b i = false → ∀ H', Same H H' → R0 H') →
      wipe ((wipe σ vs).set j (some x)) vs = wipe σ vs ∧ tt ((wipe σ vs).set j (some x)) H fun c H3 => if c = true then te ((wipe σ vs).set j (some x)) H3 R else R0 H3)
    (hD : H1 D = none) (hd : ∀ H : Hp, Same H1 H → H D = some (.lst (((List.range xs.length).filter b).map f)) → Qd H) :
    ∃ W : Nat → Nat → Hp → Prop, (∃ m, W 0 m (upd H1 D (.lst []))) ∧ ∀ i m H, W i m H →
      ((Itl K a).stop i H ∧ Qd H) ∨ ((Itl K a).go i H ∧ ∃ Nx : Hp → Prop, (∀ H', Nx H' → ∃ m', m' < m ∧ W (i + 1) m' H') ∧ ∀ x H', (Itl K a).yld i H x H' → gName j x (wipe σ vs) H' fun σ2 H2 => wipe σ2 vs = wipe σ vs ∧ tt σ2 H2 fun b H3 =>
        if b = true then te σ2 H3 fun y H4 => ∃ acc, H4 D = some (.lst acc) ∧ acc.length < sizeLine ∧ Nx (upd H4 D (.lst (acc ++ [y]))) else Nx H3) := by
  refine lc_filtW (walk_list (K := K) (a := a) (xs := xs)) b f hn ha (fun i v H H' R R0 hi s y q q0 => ?_) hD hd
  obtain ⟨rfl, hx⟩ := y
  exact hs i v H' R R0 hx s q q0
/-- over a tuple -/
theorem lcT_filt {K : PySem.W.Frag} {a : Addr} {xs : List V} {j : Nat} {tt : TT} {te : TE} {vs : List Nat} {σ : L2.St} {H1 : Hp} {D : Addr} {Qd : Hp → Prop} (b : Nat → Bool) (f : Nat → V) (ha : ∀ H, Same H1 H → SqT K H a xs) (hn : xs.length < sizeLine)
    (hs : ∀ (i : Nat) (x : V) (H : Hp) (R : VK) (R0 : Hp → Prop), xs[i]? = some x → Same H1 H → (b i = true → ∀ H', Same H H' → R (f i) H') → (b i = false → ∀ H', Same H H' → R0 H') →
      wipe ((wipe σ vs).set j (some x)) vs = wipe σ vs ∧ tt ((wipe σ vs).set j (some x)) H fun c H3 => if c = true then te ((wipe σ vs).set j (some x)) H3 R else R0 H3)
    (hD : H1 D = none) (hd : ∀ H : Hp, Same H1 H → H D = some (.lst (((List.range xs.length).filter b).map f)) → Qd H) :
    ∃ W : Nat → Nat → Hp → Prop, (∃ m, W 0 m (upd H1 D (.lst []))) ∧ ∀ i m H, W i m H →
      ((Itt K a).stop i H ∧ Qd H) ∨ ((Itt K a).go i H ∧ ∃ Nx : Hp → Prop, (∀ H', Nx H' → ∃ m', m' < m ∧ W (i + 1) m' H') ∧ ∀ x H', (Itt K a).yld i H x H' → gName j x (wipe σ vs) H' fun σ2 H2 => wipe σ2 vs = wipe σ vs ∧ tt σ2 H2 fun b H3 =>
        if b = true then te σ2 H3 fun y H4 => ∃ acc, H4 D = some (.lst acc) ∧ acc.length < sizeLine ∧ Nx (upd H4 D (.lst (acc ++ [y]))) else Nx H3) := by
  refine lc_filtW (walk_tup (K := K) (a := a) (xs := xs)) b f hn ha (fun i v H H' R R0 hi s y q q0 => ?_) hD hd
  obtain ⟨rfl, hx⟩ := y
  exact hs i v H' R R0 hx s q q0
/-- a tuple of the module's own -/
theorem tupF {K : PySem.W.Frag} {h : Heap} {mg : Str → Option Value} {x : Str} {f : Addr} {o : Obj} {its : Array Value} {n : Nat} {xs : List V} (X : K.In h) (G : h.Ns mainGlobals mg) (a : PySem.W.nsIn K mainGlobals x = some (some (.ref f))) (l : K.lookup f = some o)
    (hc : o.cls = .type "tuple") (hd : o.data = .seq its n) (hs : its.size ≤ sizeLine) (hv : Vals xs its.toList) : ∃ a, mg x = some (.ref a) ∧ ∀ H, SqT K H a xs :=
  ⟨f, PySem.W.mg_of X G a, fun H => .inr ⟨o, its, n, l, hc, hd, hs, hv⟩⟩
abbrev TupF (K : PySem.W.Frag) (mg : Str → Option Value) (x : Str) (xs : List V) : Prop := ∃ a, mg x = some (.ref a) ∧ ∀ H, SqT K H a xs
theorem with_tup {K : PySem.W.Frag} {h : Heap} {mg : Str → Option Value} (_ : K.In h) (x : Str) (xs : List V) {R : Prop} (d : TupF K mg x xs) (r : TupF K mg x xs → R) : R := r d
/-! data of whole numbers -/
theorem eqvAll_ints : ∀ f g : List Int, PyData.eqvAll (f.map PyData.int) (g.map PyData.int) = decide (f = g)
  | [], [] => by simp [PyData.eqvAll]
  | [], _ :: _ => by simp [PyData.eqvAll]
  | _ :: _, [] => by simp [PyData.eqvAll]
  | x :: f, y :: g => by
    rw [List.map_cons, List.map_cons, PyData.eqvAll, eqvAll_ints f g]
    simp [PyData.eqv, Bool.beq_eq_decide_eq]
theorem eqv_dI (f g : List Int) : PyData.eqv (dI f) (dI g) = decide (f = g) := by
  unfold dI
  simp only [PyData.eqv, eqvAll_ints]
def dLI (ns : List Int) : PyData := .list (ns.map PyData.int)
theorem eqv_dLI (f g : List Int) : PyData.eqv (dLI f) (dLI g) = decide (f = g) := by
  unfold dLI
  simp only [PyData.eqv, eqvAll_ints]
theorem shaped_dLI (ns : List Int) : SeqAt.shaped (dLI ns) = true := by
  unfold SeqAt.shaped dLI
  rw [PyData.canLay0, lay_ints, PyData.depth, deep_ints]
  decide
theorem dp_lints {K : PySem.W.Frag} {H : Hp} {a : Addr} {ns : List Int} (h : H a = some (.lst (ns.map V.int))) : Dp K H (.ref a) (dLI ns) := .lst (.inl (.inl h)) (dpAll_ints ns)
/-! repr of whole numbers -/
theorem shown_ints : ∀ ns : List Int, (∀ n ∈ ns, n.natAbs.log2 < 1920) → PyData.showableAll (ns.map PyData.int) = true
  | [], _ => by simp [PyData.showableAll]
  | n :: ns, h => by
    rw [List.map_cons, PyData.showableAll, shown_ints ns fun z hz => h z (List.mem_cons_of_mem _ hz)]
    simp [PyData.showable, h n List.mem_cons_self]
theorem noDict_ints : ∀ ns : List Int, PyData.hasDictAll (ns.map PyData.int) = false
  | [] => by simp [PyData.hasDictAll]
  | n :: ns => by
    rw [List.map_cons, PyData.hasDictAll, noDict_ints ns]
    simp [PyData.hasDict]
theorem piled_ints : ∀ ns : List Int, (∀ n ∈ ns, n.natAbs.log2 < 1920) → piled (PyData.shownAll (ns.map PyData.int)) ≤ ns.length * 1923
  | [], _ => Nat.zero_le _
  | n :: ns, h => by
    have a1 := int_text_length_le (a := n) (k := 1920) (by omega) (h n List.mem_cons_self)
    have a2 := piled_ints ns fun z hz => h z (List.mem_cons_of_mem _ hz)
    have a3 : ((toString n : Str)).length = (toString n).length := PySem.ofString_length _
    have e : PyData.shown (.int n) = (toString n : Str) := by simp only [PyData.shown]
    rw [List.map_cons, PyData.shownAll, piled_cons, List.length_cons, e]
    omega
theorem show_dI {ns : List Int} (h : ∀ n ∈ ns, n.natAbs.log2 < 1920) (hl : ns.length ≤ 100) : (dI ns).showable = true ∧ (dI ns).hasDict = false ∧ (dI ns).depth ≤ 60 ∧ (dI ns).shown.length ≤ sizeLine := by
  refine ⟨?_, ?_, by rw [deep_dI]; decide, ?_⟩
  · unfold dI
    rw [PyData.showable]
    exact shown_ints ns h
  · unfold dI
    rw [PyData.hasDict]
    exact noDict_ints ns
  · unfold dI
    rw [PyData.shown]
    have := fmt_text (PyData.shownAll (ns.map PyData.int))
    have := piled_ints ns h
    have : ns.length * 1923 ≤ 100 * 1923 := Nat.mul_le_mul_right _ hl
    rw [sizeLine_eq]
    omega
theorem log_lt {n : Int} (h : n.natAbs < 2 ^ 1900) : n.natAbs.log2 < 1920 := by
  by_cases z : n.natAbs = 0
  · rw [z]
    decide
  · have := (Nat.log2_lt z).mpr h
    omega
end CK

set_option Elab.async false
set_option linter.all false
set_option maxRecDepth 100000
set_option maxHeartbeats 2000000
/-! statements in order, tests that may end the call -/
namespace CK
open PySem PySem.Spec PyProof.Rows L2
theorem seq_cut {t u : TS} {D : Ends} {σ : L2.St} {H : Hp} (Mid : L2.St → Hp → Prop) (h1 : ∀ K : L2.St → Hp → Prop, (∀ σ' H', Mid σ' H' → K σ' H') → t { D with nx := K } σ H) (h2 : ∀ σ' H', Mid σ' H' → u D σ' H') : tSeq t u D σ H := h1 _ h2
/-- a test whose answer is b: what is within, and what follows -/
theorem if_dec {c : TT} {t u : TS} {D : Ends} {σ : L2.St} {H : Hp} (b : Bool) (h : ∀ R : Bool → Hp → Prop, (∀ H', Same H H' → R b H') → c σ H R)
    (yes : b = true → ∀ H', Same H H' → t { D with nx := fun σ' H'' => u D σ' H'' } σ H') (no : b = false → ∀ H', Same H H' → u D σ H') : tSeq (tIfS c t tNext) u D σ H :=
  h _ fun H' s => by
    cases b with
    | true => exact iteT (yes rfl H' s)
    | false => exact iteF (no rfl H' s)
/-- the last test of a block -/
theorem if_end {c : TT} {t u : TS} {D : Ends} {σ : L2.St} {H : Hp} (b : Bool) (h : ∀ R : Bool → Hp → Prop, (∀ H', Same H H' → R b H') → c σ H R)
    (yes : b = true → ∀ H', Same H H' → t D σ H') (no : b = false → ∀ H', Same H H' → u D σ H') : tIfS c t u D σ H :=
  h _ fun H' s => by
    cases b with
    | true => exact iteT (yes rfl H' s)
    | false => exact iteF (no rfl H' s)
theorem if_not {c : TT} {t u : TS} {D : Ends} {σ : L2.St} {H : Hp} (h : ∀ R : Bool → Hp → Prop, (∀ H', Same H H' → R false H') → c σ H R) (r : ∀ H', Same H H' → u D σ H') : tSeq (tIfS c t tNext) u D σ H :=
  h _ fun H' s => iteF (r H' s)
theorem yes_if {σ : L2.St} {H : Hp} {A B : Hp → Prop} (h : A H) : tYes σ H fun b H3 => if b = true then A H3 else B H3 := by
  show (if true = true then A H else B H)
  exact if_pos rfl ▸ h
end CK

set_option Elab.async false
set_option linter.all false
set_option maxRecDepth 100000
set_option maxHeartbeats 4000000
namespace K76
open PySem PySem.Spec PyProof.Rows L2 CK
def topS (i : Nat) : Stmt := PySem.Challenge.pw_countscribe_k76_marks_moved.main.body.getD i (.Pass ⟨0, 0, 0, 0⟩)
theorem sc_is_whole : FnScope ["value"] ["value"] (C8.fnScope (topS 8)) := C8.fnScope_by (by decide +kernel)
theorem sc_is_count : FnScope ["value"] ["value"] (C8.fnScope (topS 9)) := C8.fnScope_by (by decide +kernel)
theorem sc_is_within : FnScope ["value", "low", "high"] ["value", "low", "high"] (C8.fnScope (topS 10)) := C8.fnScope_by (by decide +kernel)
theorem sc_need_within : FnScope ["value", "low", "high"] ["value", "low", "high"] (C8.fnScope (topS 11)) := C8.fnScope_by (by decide +kernel)
theorem sc_need_many : FnScope ["value"] ["value"] (C8.fnScope (topS 12)) := C8.fnScope_by (by decide +kernel)
theorem sc_is_form_for : FnScope ["many", "value", "number"] ["many", "value"] (C8.fnScope (topS 14)) := C8.fnScope_by (by decide +kernel)
theorem sc_need_form_for : FnScope ["many", "value"] ["many", "value"] (C8.fnScope (topS 15)) := C8.fnScope_by (by decide +kernel)
theorem sc_form_sum : FnScope ["one", "other", "left", "right"] ["one", "other"] (C8.fnScope (topS 16)) := C8.fnScope_by (by decide +kernel)
theorem sc_form_difference : FnScope ["one", "other", "left", "right"] ["one", "other"] (C8.fnScope (topS 17)) := C8.fnScope_by (by decide +kernel)
theorem sc_at_most : FnScope ["one", "other", "left", "right"] ["one", "other"] (C8.fnScope (topS 18)) := C8.fnScope_by (by decide +kernel)
theorem sc_need_side : FnScope ["value"] ["value"] (C8.fnScope (topS 21)) := C8.fnScope_by (by decide +kernel)
theorem sc_mark_moved : FnScope ["many", "place", "side", "start", "end", "length"] ["many", "place", "side", "start", "end", "length"] (C8.fnScope (topS 22)) := C8.fnScope_by (by decide +kernel)
theorem sc_law_hash : FnScope ["_law_seed", "_law_index", "_law_mixed"] ["_law_seed", "_law_index"] (C8.fnScope (topS 24)) := C8.fnScope_by (by decide +kernel)
theorem sc_law_random : FnScope ["_law_generator_here", "_law_bound", "_law_drawn", "_law_turn"] ["_law_generator_here", "_law_bound"] (C8.fnScope (topS 25)) := C8.fnScope_by (by decide +kernel)
theorem sc_law_cell : FnScope ["_law_script", "_law_index"] ["_law_script", "_law_index"] (C8.fnScope (topS 26)) := C8.fnScope_by (by decide +kernel)
theorem sc_law_generator : FnScope ["_law_script", "_law_index", "_law_seed"] ["_law_script", "_law_index"] (C8.fnScope (topS 27)) := C8.fnScope_by (by decide +kernel)
theorem sc_law_form : FnScope ["_law_generator_here", "_law_many", "_law_most", "_law_turn"] ["_law_generator_here", "_law_many", "_law_most"] (C8.fnScope (topS 28)) := C8.fnScope_by (by decide +kernel)
theorem sc_law_value : FnScope ["_law_form_here", "_law_point_here", "_law_number", "_law_count"] ["_law_form_here", "_law_point_here"] (C8.fnScope (topS 29)) := C8.fnScope_by (by decide +kernel)
theorem sc_law_point : FnScope ["_law_generator_here", "_law_many", "_law_most", "_law_turn"] ["_law_generator_here", "_law_many", "_law_most"] (C8.fnScope (topS 30)) := C8.fnScope_by (by decide +kernel)
theorem sc_law_added : FnScope ["_law_one", "_law_other", "_law_low", "_law_high"] ["_law_one", "_law_other"] (C8.fnScope (topS 31)) := C8.fnScope_by (by decide +kernel)
theorem sc_law_less : FnScope ["_law_one", "_law_other", "_law_low", "_law_high"] ["_law_one", "_law_other"] (C8.fnScope (topS 32)) := C8.fnScope_by (by decide +kernel)
theorem sc_law_below : FnScope ["_law_one", "_law_other", "_law_low", "_law_high"] ["_law_one", "_law_other"] (C8.fnScope (topS 33)) := C8.fnScope_by (by decide +kernel)
theorem sc_law_spots : FnScope ["_law_generator_here", "_law_many", "_law_turn"] ["_law_generator_here", "_law_many"] (C8.fnScope (topS 34)) := C8.fnScope_by (by decide +kernel)
theorem sc_law_part : FnScope ["_law_generator_here", "_law_form_here", "_law_number"] ["_law_generator_here", "_law_form_here"] (C8.fnScope (topS 35)) := C8.fnScope_by (by decide +kernel)
theorem sc_law_spot : FnScope ["_law_generator_here", "_law_many", "_law_most", "_law_start", "_law_stretch", "_law_way", "_law_end", "_law_edge", "_law_at", "_law_index"] ["_law_generator_here", "_law_many", "_law_most", "_law_start", "_law_stretch"] (C8.fnScope (topS 36)) := C8.fnScope_by (by decide +kernel)
theorem sc_law_due : FnScope ["_law_place", "_law_side", "_law_start", "_law_end", "_law_length"] ["_law_place", "_law_side", "_law_start", "_law_end", "_law_length"] (C8.fnScope (topS 37)) := C8.fnScope_by (by decide +kernel)
theorem sc_law_at_point : FnScope ["_law_found", "_law_place", "_law_side", "_law_start", "_law_end", "_law_length", "_law_point_here", "_law_stands", "_law_spot_here", "_law_low", "_law_high", "_law_more"] ["_law_found", "_law_place", "_law_side", "_law_start", "_law_end", "_law_length", "_law_point_here"] (C8.fnScope (topS 38)) := C8.fnScope_by (by decide +kernel)
theorem sc_law_right : FnScope ["_law_generator_here", "_law_many", "_law_most", "_law_start", "_law_length", "_law_stretch", "_law_place", "_law_end", "_law_points", "_law_side", "_law_found", "_law_point_here"] ["_law_generator_here"] (C8.fnScope (topS 39)) := C8.fnScope_by (by decide +kernel)
theorem sc_law : FnScope ["_law_script", "_law_index"] ["_law_script"] (C8.fnScope (topS 40)) := C8.fnScope_by (by decide +kernel)
structure Txt (K : PySem.W.Frag) (mg : Str → Option Value) : Prop where
  d_is_whole : DefF K mg "is_whole" (topS 8) ["value"]
  d_is_count : DefF K mg "is_count" (topS 9) ["value"]
  d_is_within : DefF K mg "is_within" (topS 10) ["value", "low", "high"]
  d_need_within : DefF K mg "need_within" (topS 11) ["value", "low", "high"]
  d_need_many : DefF K mg "need_many" (topS 12) ["value"]
  d_is_form_for : DefF K mg "is_form_for" (topS 14) ["many", "value"]
  d_need_form_for : DefF K mg "need_form_for" (topS 15) ["many", "value"]
  d_form_sum : DefF K mg "form_sum" (topS 16) ["one", "other"]
  d_form_difference : DefF K mg "form_difference" (topS 17) ["one", "other"]
  d_at_most : DefF K mg "at_most" (topS 18) ["one", "other"]
  d_need_side : DefF K mg "need_side" (topS 21) ["value"]
  d_mark_moved : DefF K mg "mark_moved" (topS 22) ["many", "place", "side", "start", "end", "length"]
  d_law_hash : DefF K mg "_law_hash" (topS 24) ["_law_seed", "_law_index"]
  d_law_random : DefF K mg "_law_random" (topS 25) ["_law_generator_here", "_law_bound"]
  d_law_cell : DefF K mg "_law_cell" (topS 26) ["_law_script", "_law_index"]
  d_law_generator : DefF K mg "_law_generator" (topS 27) ["_law_script", "_law_index"]
  d_law_form : DefF K mg "_law_form" (topS 28) ["_law_generator_here", "_law_many", "_law_most"]
  d_law_value : DefF K mg "_law_value" (topS 29) ["_law_form_here", "_law_point_here"]
  d_law_point : DefF K mg "_law_point" (topS 30) ["_law_generator_here", "_law_many", "_law_most"]
  d_law_added : DefF K mg "_law_added" (topS 31) ["_law_one", "_law_other"]
  d_law_less : DefF K mg "_law_less" (topS 32) ["_law_one", "_law_other"]
  d_law_below : DefF K mg "_law_below" (topS 33) ["_law_one", "_law_other"]
  d_law_spots : DefF K mg "_law_spots" (topS 34) ["_law_generator_here", "_law_many"]
  d_law_part : DefF K mg "_law_part" (topS 35) ["_law_generator_here", "_law_form_here"]
  d_law_spot : DefF K mg "_law_spot" (topS 36) ["_law_generator_here", "_law_many", "_law_most", "_law_start", "_law_stretch"]
  d_law_due : DefF K mg "_law_due" (topS 37) ["_law_place", "_law_side", "_law_start", "_law_end", "_law_length"]
  d_law_at_point : DefF K mg "_law_at_point" (topS 38) ["_law_found", "_law_place", "_law_side", "_law_start", "_law_end", "_law_length", "_law_point_here"]
  d_law_right : DefF K mg "_law_right" (topS 39) ["_law_generator_here"]
  d_law : DefF K mg "law" (topS 40) ["_law_script"]
  m_all : mg "all" = none
  m_bool : mg "bool" = none
  m_int : mg "int" = none
  m_isinstance : mg "isinstance" = none
  m_len : mg "len" = none
  m_max : mg "max" = none
  m_range : mg "range" = none
  m_repr : mg "repr" = none
  m_str : mg "str" = none
  m_sum : mg "sum" = none
  m_tuple : mg "tuple" = none
  m_zip : mg "zip" = none
  k_MOST_UNKNOWNS : ∃ u, mg "MOST_UNKNOWNS" = some u ∧ RelV (.int 3) u
  k_SIDES : ∃ a, mg "SIDES" = some (.ref a) ∧ ∀ H, SqT K H a [.str "left", .str "right"]
end K76

set_option Elab.async false
set_option linter.all false
set_option maxRecDepth 100000
set_option maxHeartbeats 2000000
namespace K76
open PySem PySem.Spec PyProof.Rows L2 CK
section
variable {P : Program} {w : World} {K : PySem.W.Frag} {mg : Str → Option Value} {base : Heap}
/-! ### checks -/
def sp_is_whole : Sp := fun vs H Q _ => ∃ v, vs = [v] ∧ Kn H v ∧ Q (.bl (isW v)) H
theorem c_is_whole (T : Txt K mg) : C8.Cal P w K mg base 1 "is_whole" sp_is_whole [] := by
  refine calF T.d_is_whole sc_is_whole (fun vs H Q E h => ?_) (fun f cdv A outer s H vs Q E hr h => ?_)
  · obtain ⟨v, rfl, _⟩ := h; rfl
  · obtain ⟨v, rfl, k, q⟩ := h
    refine ⟨_, (pss_one (ps_ret (pe_and (pe_callB call_isK (by rfl) T.m_isinstance (by decide +kernel) (pa_cons (pv 0) (pa_cons (pe_bltn (v := .ty "int") (by rfl) T.m_int (by decide +kernel) rfl) pa_nil))) (pe_one (pe_not (pe_callB call_isK (by rfl) T.m_isinstance (by decide +kernel) (pa_cons (pv 0) (pa_cons (pe_bltn (v := .ty "bool") (by rfl) T.m_bool (by decide +kernel) rfl) pa_nil)))))))), ?_⟩
    refine ⟨v, rfl, v, "int", _, rfl, k, kit_int k, _, rfl, ite2 (fun e => ?_) (fun e => ?_)⟩
    · refine ⟨v, rfl, v, "bool", _, rfl, k, kit_bool k, _, rfl, ?_⟩
      rw [show (!isBo v) = isW v by cases v <;> first | rfl | (exact absurd e Bool.false_ne_true)]
      exact q
    · rw [show false = isW v by cases v <;> first | rfl | (exact absurd rfl e)]
      exact q
def sp_is_count : Sp := fun vs H Q _ => ∃ v, vs = [v] ∧ Kn H v ∧ Q (.bl (isC v)) H
theorem c_is_count (T : Txt K mg) : C8.Cal P w K mg base 2 "is_count" sp_is_count [] := by
  refine calF T.d_is_count sc_is_count (fun vs H Q E h => ?_) (fun f cdv A outer s H vs Q E hr h => ?_)
  · obtain ⟨v, rfl, _⟩ := h; rfl
  · obtain ⟨v, rfl, k, q⟩ := h
    refine ⟨_, (pss_one (ps_ret (pe_and (C8.pe_c (c_is_whole T) hr (by decide) (by rfl) (pa_cons (pv 0) pa_nil)) (pe_one (pe_cmpR op_ge (pv 0) pe_int (nomark _)))))), ?_⟩
    refine ⟨v, rfl, v, rfl, k, _, rfl, ite2 (fun e => ?_) (fun e => ?_)⟩
    · cases v <;> first | (exact absurd e Bool.false_ne_true) | exact ⟨_, rfl, _, 0, rfl, rfl, q⟩
    · rw [show false = isC v by cases v <;> first | rfl | (exact absurd rfl e)]
      exact q
def sp_is_within : Sp := fun vs H Q _ => ∃ i lo hi : Int, vs = [.int i, .int lo, .int hi] ∧ Q (.bl (decide (lo ≤ i) && decide (i ≤ hi))) H
theorem c_is_within (T : Txt K mg) : C8.Cal P w K mg base 2 "is_within" sp_is_within [] := by
  refine calF T.d_is_within sc_is_within (fun vs H Q E h => ?_) (fun f cdv A outer s H vs Q E hr h => ?_)
  · obtain ⟨i, lo, hi, rfl, _⟩ := h; rfl
  · obtain ⟨i, lo, hi, rfl, q⟩ := h
    refine ⟨_, (pss_one (ps_ret (pe_and (C8.pe_c (c_is_whole T) hr (by decide) (by rfl) (pa_cons (pv 0) pa_nil)) (pe_one (pe_chain op_le op_le (pv 1) (pv 0) (pv 2)))))), ?_⟩
    refine ⟨.int i, rfl, .int i, rfl, .int i, _, rfl, iteT ?_⟩
    refine ⟨_, rfl, _, rfl, lo, i, rfl, rfl, _, rfl, ite2 (fun e => ?_) (fun e => ?_)⟩
    · refine ⟨_, rfl, i, hi, rfl, rfl, ?_⟩
      rw [e, Bool.true_and] at q
      exact q
    · rw [Bool.not_eq_true] at e
      rw [e, Bool.false_and] at q
      exact q
def sp_need_within : Sp := fun vs H Q _ => ∃ i lo hi : Int, vs = [.int i, .int lo, .int hi] ∧ lo ≤ i ∧ i ≤ hi ∧ Q .non H
theorem c_need_within (T : Txt K mg) : C8.Cal P w K mg base 3 "need_within" sp_need_within [] := by
  refine calF T.d_need_within sc_need_within (fun vs H Q E h => ?_) (fun f cdv A outer s H vs Q E hr h => ?_)
  · obtain ⟨i, lo, hi, rfl, _⟩ := h; rfl
  · obtain ⟨i, lo, hi, rfl, h1, h2, q⟩ := h
    refine ⟨_, (pss_one (ps_if (pt_not (pt_val (C8.pe_c (c_is_within T) hr (by decide) (by rfl) (pa_cons (pv 0) (pa_cons (pv 1) (pa_cons (pv 2) pa_nil))))))
    (pss_one ps_never)
    pss_nil)), ?_⟩
    refine ⟨_, rfl, _, rfl, _, rfl, i, lo, hi, rfl, _, rfl, ?_⟩
    rw [decide_eq_true h1, decide_eq_true h2]
    exact iteF q
def sp_need_many : Sp := fun vs H Q _ => ∃ i : Int, vs = [.int i] ∧ 0 ≤ i ∧ i ≤ 3 ∧ Q .non H
theorem c_need_many (T : Txt K mg) : C8.Cal P w K mg base 4 "need_many" sp_need_many [] := by
  refine calF T.d_need_many sc_need_many (fun vs H Q E h => ?_) (fun f cdv A outer s H vs Q E hr h => ?_)
  · obtain ⟨v, rfl, _⟩ := h; rfl
  · obtain ⟨i, rfl, h1, h2, q⟩ := h
    refine ⟨_, (pss_one (ps_expr (C8.pe_c (c_need_within T) hr (by decide) (by rfl) (pa_cons (pv 0) (pa_cons pe_int (pa_cons (C8.pe_gc (by rfl) T.k_MOST_UNKNOWNS) pa_nil)))))), ?_⟩
    exact ⟨_, rfl, i, 0, 3, rfl, h1, h2, q⟩
/-! a list of counts -/
/-! ### forms -/
/-- what is_form_for says of a value -/
def formB (H : Hp) (m : Int) : V → Bool
  | .ref a => match H a with
    | some (.tup xs) => decide ((xs.length : Int) = m + 1) && xs.all isC
    | _ => false
  | _ => false
theorem formB_tup {H : Hp} {m : Int} {a : Addr} {xs : List V} (h : H a = some (.tup xs)) : formB H m (.ref a) = (decide ((xs.length : Int) = m + 1) && xs.all isC) := by simp only [formB, h]
def sp_is_form_for : Sp := fun vs H Q _ => ∃ (m : Int) (v : V), vs = [.int m, v] ∧ Kn H v ∧ (∀ a xs, v = .ref a → H a = some (.tup xs) → xs.length < sizeLine ∧ ∀ x ∈ xs, Kn H x) ∧ ∀ H', Same H H' → Q (.bl (formB H m v)) H'
theorem c_is_form_for (T : Txt K mg) : C8.Cal P w K mg base 3 "is_form_for" sp_is_form_for [] := by
  refine calF T.d_is_form_for sc_is_form_for (fun vs H Q E h => ?_) (fun f cdv A outer s H vs Q E hr h => ?_)
  · obtain ⟨_, _, rfl, _⟩ := h; rfl
  · obtain ⟨m, v, rfl, kn, ht, q⟩ := h
    refine ⟨_, (pss_one (ps_ret (pe_and (pe_callB call_isK (by rfl) T.m_isinstance (by decide +kernel) (pa_cons (pv 1) (pa_cons (pe_bltn (v := .ty "tuple") (by rfl) T.m_tuple (by decide +kernel) rfl) pa_nil))) (pe_and (pe_cmpR op_eq (pe_callB call_len_seq (by rfl) T.m_len (by decide +kernel) (pa_cons (pv 1) pa_nil)) (pe_op op_add (pv 0) pe_int) (nomark _)) (pe_one (pe_callB (cr_all rfl) (by rfl) T.m_all (by decide +kernel) (pa_cons (pe_lc (own := [("number", 2)]) (by rfl) sc_is_form_for.nd (pi_tup (pv 1)) (blkOk_by (N := ["many", "value", "number"]) (sc := C8.fnScope (topS 14)) (own := [("number", 2)]) (by decide +kernel)) (fun _ _ _ _ _ => (pg_name (i := 2) sc_is_form_for.nd rfl (Or.inl rfl))) (fun _ _ _ _ _ => pts_nil) (fun _ _ _ _ _ => (C8.pe_c (c_is_count T) hr (by decide) (by rfl) (pa_cons (pv 2) pa_nil)))) pa_nil))))))), ?_⟩
    refine ⟨_, rfl, v, "tuple", _, rfl, kn, kit_tuple kn, _, rfl, ite2 (fun e => ?_) (fun e => ?_)⟩
    · cases kn <;> first | (exact absurd e Bool.false_ne_true) | skip
      · rename_i a xs ha
        simp only [isTu, ha] at e
        exact absurd e (by decide)
      · rename_i a xs ha
        obtain ⟨hl, hk⟩ := ht a xs rfl ha
        rw [formB_tup ha] at q
        refine ⟨_, rfl, a, xs, rfl, .inr (.inl (.inl ha)), _, rfl, _, _, rfl, rfl, rfl, _, rfl, ite2 (fun e => ?_) (fun e => ?_)⟩
        · have e' : (xs.length : Int) = m + 1 := V.int.inj (of_decide_eq_true e)
          rw [decide_eq_true e', Bool.true_and] at q
          refine ⟨_, rfl, a, rfl, ⟨xs, .inl (.inl ha)⟩, ?_⟩
          refine fun D hD => lcT_map (fun x => .bl (isC x)) ha hl (fun i x H' R hx s q' => ?_) hD fun H' s hL => ?_
          · exact ⟨rfl, x, rfl, x, rfl, (hk x (List.mem_of_getElem? hx)).same s, q' _ (Same.refl _)⟩
          refine ⟨D, xs.map isC, rfl, .inl (.inl (by rw [hL, List.map_map]; rfl)), ?_⟩
          rw [List.all_map]
          exact q H' s
        · have e' : ¬ (xs.length : Int) = m + 1 := fun z => e (by rw [z]; exact decide_eq_true rfl)
          rw [decide_eq_false e', Bool.false_and] at q
          exact q H (Same.refl _)
    · rw [show formB H m v = false by
        cases kn <;> first | rfl | skip
        · rename_i a xs ha
          simp only [formB, ha]
        · rename_i a xs ha
          exact absurd (isTu_tup ha) e] at q
      exact q H (Same.refl _)
/-- a tuple of whole numbers -/
def TI (H : Hp) (a : Addr) (ns : List Int) : Prop := H a = some (.tup (ns.map V.int))
theorem TI.same {H H' : Hp} {a : Addr} {ns : List Int} (h : TI H a ns) (s : Same H H') : TI H' a ns := s _ _ h
def Nn (ns : List Int) : Prop := ∀ n ∈ ns, 0 ≤ n
theorem TI.kn {H : Hp} {a : Addr} {ns : List Int} (h : TI H a ns) : Kn H (.ref a) := .tup h
theorem formB_TI {H : Hp} {m : Int} {a : Addr} {ns : List Int} (h : TI H a ns) (hn : Nn ns) : formB H m (.ref a) = decide ((ns.length : Int) = m + 1) := by
  rw [formB_tup h, List.length_map, show (ns.map V.int).all isC = true by
    rw [List.all_map, List.all_eq_true]
    exact fun x hx => decide_eq_true (hn x hx), Bool.and_true]
theorem kn_ints {H : Hp} {ns : List Int} : ∀ x ∈ ns.map V.int, Kn H x := fun x hx => by
  obtain ⟨i, _, rfl⟩ := List.mem_map.mp hx
  exact .int i
theorem small5 {n : Nat} (h : n ≤ 5) : n < sizeLine := small1000 (by omega)
def sp_need_form : Sp := fun vs H Q _ => ∃ (a : Addr) (ns : List Int), vs = [.ref a] ∧ TI H a ns ∧ Nn ns ∧ 0 < ns.length ∧ ns.length ≤ 4 ∧ ∀ H', Same H H' → Q .non H'
end
end K76

set_option Elab.async false
set_option linter.all false
set_option maxRecDepth 100000
set_option maxHeartbeats 2000000
namespace K76
open PySem PySem.Spec PyProof.Rows L2 CK
/-! ### the mathematics of forms -/
def zadd (f g : List Int) : List Int := List.zipWith (fun x y => x + y) f g
def zmul (f g : List Int) : List Int := List.zipWith (fun x y => x * y) f g
def valL (f p : List Int) : Int := f.headD 0 + (zmul f.tail p).sum
def timesL (n : Int) (f : List Int) : List Int := f.map fun x => n * x
def stepL (r : List Int) (q : Int × List Int) : List Int := zadd r (timesL q.1 q.2)
def insL (f : List Int) (m : Nat) (gs : List (List Int)) : List Int := (f.tail.zip gs).foldl stepL (f.headD 0 :: List.replicate m 0)
def Bd (ns : List Int) : Prop := ∀ n ∈ ns, n.natAbs < 2 ^ 1000
theorem zip_ints {f g : Int → Int → Int} : ∀ (xs ys : List Int), List.zipWith (fun x y => match x, y with | .int i, .int j => V.int (f i j) | _, _ => V.non) (xs.map V.int) (ys.map V.int) = (List.zipWith f xs ys).map V.int
  | [], _ => by simp
  | _ :: _, [] => by simp
  | x :: xs, y :: ys => by
    show V.int (f x y) :: _ = V.int (f x y) :: _
    rw [zip_ints (f := f) (g := g) xs ys]
theorem get_int {xs : List Int} {i : Nat} {v : V} (h : (xs.map V.int)[i]? = some v) : ∃ z, z ∈ xs ∧ xs[i]? = some z ∧ v = .int z := by
  rw [List.getElem?_map] at h
  cases e : xs[i]? with
  | none => rw [e] at h; cases h
  | some z =>
    rw [e] at h
    exact ⟨z, List.mem_of_getElem? e, rfl, (Option.some.inj h).symm⟩
/-- + of two values, both whole numbers -/
def vAdd : V → V → V
  | .int i, .int j => .int (i + j)
  | _, _ => .non
def vMul : V → V → V
  | .int i, .int j => .int (i * j)
  | _, _ => .non
def vLe : V → V → V
  | .int i, .int j => .bl (decide (i ≤ j))
  | _, _ => .non
theorem zip_add : ∀ (xs ys : List Int), List.zipWith vAdd (xs.map V.int) (ys.map V.int) = (zadd xs ys).map V.int
  | [], _ => by simp [zadd]
  | _ :: _, [] => by simp [zadd]
  | x :: xs, y :: ys => by
    show V.int (x + y) :: _ = V.int (x + y) :: _
    rw [zip_add xs ys]
    rfl
theorem zip_mul : ∀ (xs ys : List Int), List.zipWith vMul (xs.map V.int) (ys.map V.int) = (zmul xs ys).map V.int
  | [], _ => by simp [zmul]
  | _ :: _, [] => by simp [zmul]
  | x :: xs, y :: ys => by
    show V.int (x * y) :: _ = V.int (x * y) :: _
    rw [zip_mul xs ys]
    rfl
def zle (f g : List Int) : List Bool := List.zipWith (fun x y => decide (x ≤ y)) f g
theorem zip_le : ∀ (xs ys : List Int), List.zipWith vLe (xs.map V.int) (ys.map V.int) = (zle xs ys).map V.bl
  | [], _ => by simp [zle]
  | _ :: _, [] => by simp [zle]
  | x :: xs, y :: ys => by
    show V.bl (decide (x ≤ y)) :: _ = V.bl (decide (x ≤ y)) :: _
    rw [zip_le xs ys]
    rfl
theorem mulOk {i j : Int} (hi : i.natAbs < 2 ^ 1000) (hj : j.natAbs < 2 ^ 1000) : CMulW i j := wide_mul hi hj (by decide) (by decide) (by decide)
section
variable {P : Program} {w : World} {K : PySem.W.Frag} {mg : Str → Option Value} {base : Heap}
/-- a list of whole numbers -/
def LI (H : Hp) (a : Addr) (ns : List Int) : Prop := H a = some (.lst (ns.map V.int))
theorem LI.same {H H' : Hp} {a : Addr} {ns : List Int} (h : LI H a ns) (s : Same H H') : LI H' a ns := s _ _ h
theorem tail_map (ns : List Int) : (ns.map V.int).drop 1 = (ns.tail).map V.int := by
  cases ns <;> rfl
/-! plain_form -/
/-! form_value -/
/-! form_sum, form_times, at_most -/
def sp_form_sum : Sp := fun vs H Q _ => ∃ (a b : Addr) (f g : List Int), vs = [.ref a, .ref b] ∧ TI H a f ∧ TI H b g ∧ f.length ≤ 4 ∧ f.length = g.length ∧ ∀ p H', Same H H' → TI H' p (zadd f g) → Q (.ref p) H'
theorem c_form_sum (T : Txt K mg) : C8.Cal P w K mg base 1 "form_sum" sp_form_sum [] := by
  refine calF T.d_form_sum sc_form_sum (fun vs H Q E h => ?_) (fun f cdv A outer s H vs Q E hr h => ?_)
  · obtain ⟨_, _, _, _, rfl, _⟩ := h; rfl
  · obtain ⟨a, b, f, g, rfl, ha, hb, h4, hl, q⟩ := h
    refine ⟨_, (pss_one (ps_ret (pe_callTy call_tupL (by rfl) T.m_tuple (by decide +kernel) (pa_cons (pe_lc (own := [("left", 2), ("right", 3)]) (by rfl) sc_form_sum.nd (pi_zipB (K := K) rfl (by rfl) T.m_zip (pa_cons (pv 0) (pa_cons (pv 1) pa_nil))) (blkOk_by (N := ["one", "other", "left", "right"]) (sc := C8.fnScope (topS 16)) (own := [("left", 2), ("right", 3)]) (by decide +kernel)) (fun _ _ _ _ _ => (pg_two (K := K) (i := 2) (j := 3) rfl rfl sc_form_sum.nd rfl rfl (Or.inl rfl) (Or.inl rfl))) (fun _ _ _ _ _ => pts_nil) (fun _ _ _ _ _ => (pe_op op_add (pv 2) (pv 3)))) pa_nil)))), ?_⟩
    refine ⟨_, rfl, _, rfl, .T, .T, a, b, f.map V.int, g.map V.int, rfl, .inl (.inl ha), .inl (.inl hb), ?_⟩
    refine fun D hD => lcZ_map vAdd (by simp; omega) (by rw [List.length_map]; exact small5 (by omega)) (fun H' s => ⟨.inl (.inl (s _ _ ha)), .inl (.inl (s _ _ hb))⟩) (fun i x y H' R hx hy s q' => ?_) hD fun H' s hL => ?_
    · obtain ⟨x', mx, _, rfl⟩ := get_int hx
      obtain ⟨y', my, _, rfl⟩ := get_int hy
      exact ⟨rfl, _, rfl, _, rfl, x', y', rfl, rfl, q' _ (Same.refl _)⟩
    · rw [zip_add] at hL
      exact ⟨D, _, rfl, hL, fun l H2 s2 h2 => q l H2 (s.trans s2) h2⟩
def sp_at_most : Sp := fun vs H Q _ => ∃ (a b : Addr) (f g : List Int), vs = [.ref a, .ref b] ∧ TI H a f ∧ TI H b g ∧ f.length ≤ 4 ∧ f.length = g.length ∧ ∀ H', Same H H' → Q (.bl ((zle f g).all id)) H'
theorem c_at_most (T : Txt K mg) : C8.Cal P w K mg base 1 "at_most" sp_at_most [] := by
  refine calF T.d_at_most sc_at_most (fun vs H Q E h => ?_) (fun f cdv A outer s H vs Q E hr h => ?_)
  · obtain ⟨_, _, _, _, rfl, _⟩ := h; rfl
  · obtain ⟨a, b, f, g, rfl, ha, hb, h4, hl, q⟩ := h
    refine ⟨_, (pss_one (ps_ret (pe_callB (cr_all rfl) (by rfl) T.m_all (by decide +kernel) (pa_cons (pe_lc (own := [("left", 2), ("right", 3)]) (by rfl) sc_at_most.nd (pi_zipB (K := K) rfl (by rfl) T.m_zip (pa_cons (pv 0) (pa_cons (pv 1) pa_nil))) (blkOk_by (N := ["one", "other", "left", "right"]) (sc := C8.fnScope (topS 18)) (own := [("left", 2), ("right", 3)]) (by decide +kernel)) (fun _ _ _ _ _ => (pg_two (K := K) (i := 2) (j := 3) rfl rfl sc_at_most.nd rfl rfl (Or.inl rfl) (Or.inl rfl))) (fun _ _ _ _ _ => pts_nil) (fun _ _ _ _ _ => (pe_cmpR op_le (pv 2) (pv 3) (nomark _)))) pa_nil)))), ?_⟩
    refine ⟨_, rfl, _, rfl, .T, .T, a, b, f.map V.int, g.map V.int, rfl, .inl (.inl ha), .inl (.inl hb), ?_⟩
    refine fun D hD => lcZ_map vLe (by simp; omega) (by rw [List.length_map]; exact small5 (by omega)) (fun H' s => ⟨.inl (.inl (s _ _ ha)), .inl (.inl (s _ _ hb))⟩) (fun i x y H' R hx hy s q' => ?_) hD fun H' s hL => ?_
    · obtain ⟨x', mx, _, rfl⟩ := get_int hx
      obtain ⟨y', my, _, rfl⟩ := get_int hy
      exact ⟨rfl, _, rfl, _, rfl, x', y', rfl, rfl, q' _ (Same.refl _)⟩
    · rw [zip_le] at hL
      exact ⟨D, _, rfl, .inl (.inl hL), q H' s⟩
end
end K76

set_option Elab.async false
set_option linter.all false
set_option maxRecDepth 100000
set_option maxHeartbeats 4000000
namespace K76
open PySem PySem.Spec PyProof.Rows L2 CK
/-- the list at a holds, in order, tuples of these whole numbers -/
structure FL (H : Hp) (a : Addr) (ps : List Addr) (fs : List (List Int)) : Prop where
  at_ : H a = some (.lst (ps.map V.ref))
  len : ps.length = fs.length
  get : ∀ (i : Nat) (p : Addr) (f : List Int), ps[i]? = some p → fs[i]? = some f → TI H p f
theorem FL.same {H H' : Hp} {a : Addr} {ps : List Addr} {fs : List (List Int)} (h : FL H a ps fs) (s : Same H H') : FL H' a ps fs :=
  ⟨s _ _ h.at_, h.len, fun i p f a b => (h.get i p f a b).same s⟩
theorem get_ref {ps : List Addr} {i : Nat} {v : V} (h : (ps.map V.ref)[i]? = some v) : ∃ p, ps[i]? = some p ∧ v = .ref p := by
  rw [List.getElem?_map] at h
  cases e : ps[i]? with
  | none => rw [e] at h; cases h
  | some p =>
    rw [e] at h
    exact ⟨p, rfl, (Option.some.inj h).symm⟩
theorem get_of_len {α β : Type} {xs : List α} {ys : List β} (hl : xs.length = ys.length) {i : Nat} {x : α} (h : xs[i]? = some x) : ∃ y, ys[i]? = some y ∧ y ∈ ys := by
  have h1 := (List.getElem?_eq_some_iff.mp h).1
  have h2 : i < ys.length := by omega
  exact ⟨ys[i], List.getElem?_eq_getElem h2, List.getElem_mem h2⟩
section
variable {P : Program} {w : World} {K : PySem.W.Frag} {mg : Str → Option Value} {base : Heap}
/-! form_inserted -/
theorem zadd_len {f g : List Int} (h : f.length = g.length) : (zadd f g).length = f.length := by
  unfold zadd
  rw [List.length_zipWith]
  omega
theorem times_len (n : Int) (f : List Int) : (timesL n f).length = f.length := by
  unfold timesL
  rw [List.length_map]
/-! ### the interface -/
end
end K76

set_option Elab.async false
set_option linter.all false
set_option maxRecDepth 100000
set_option maxHeartbeats 4000000
namespace K76
open PySem PySem.Spec PyProof.Rows L2 CK
section
variable {P : Program} {w : World} {K : PySem.W.Frag} {mg : Str → Option Value} {base : Heap}
/-! ### the law's own defs -/
theorem fm0 {i j : Int} (h : 0 < j) : 0 ≤ i.fmod j := Int.fmod_nonneg_of_pos i h
theorem fm1 {i j : Int} (h : 0 < j) : i.fmod j < j := Int.fmod_lt_of_pos i h
theorem ab {i : Int} {k : Nat} (h0 : 0 ≤ i) (h : i < 2 ^ k) : i.natAbs < 2 ^ k := by
  have e : ((2 ^ k : Nat) : Int) = 2 ^ k := by simp
  omega
def sp_hash : Sp := fun vs H Q _ => ∃ s i : Int, vs = [.int s, .int i] ∧ 0 ≤ s ∧ s < 2 ^ 31 ∧ 0 ≤ i ∧ i < 2 ^ 41 ∧ ∀ r : Int, 0 ≤ r → r < 2 ^ 31 → Q (.int r) H
theorem c_law_hash (T : Txt K mg) : C8.Cal P w K mg base 1 "_law_hash" sp_hash [] := by
  refine calF T.d_law_hash sc_law_hash (fun vs H Q E h => ?_) (fun f cdv A outer s H vs Q E hr h => ?_)
  · obtain ⟨_, _, rfl, _⟩ := h; rfl
  · obtain ⟨z, i, rfl, h0, h1, h2, h3, q⟩ := h
    refine ⟨_, (pss_cons (ps_set (i := 2) sc_law_hash.nd rfl (Or.inl rfl) (pe_op op_modN (pe_callTy call_int1 (by rfl) T.m_int (by decide +kernel) (pa_cons (pe_op op_add (pe_op op_add (pe_op op_add (pe_op op_mulW (pv 0) pe_int) (pe_op op_mulW (pe_op op_mulW pe_int (pv 1)) (pv 1))) (pe_op op_mulW pe_int (pv 1))) pe_int) pa_nil)) pe_int))
    (pss_cons (ps_set (i := 2) sc_law_hash.nd rfl (Or.inl rfl) (pe_op op_modN (pe_callTy call_int1 (by rfl) T.m_int (by decide +kernel) (pa_cons (pe_op op_add (pe_op op_add (pe_op op_mulW (pv 2) (pv 2)) (pe_op op_mulW pe_int (pv 1))) pe_int) pa_nil)) pe_int))
    (pss_one (ps_ret (pe_op op_modN (pe_callTy call_int1 (by rfl) T.m_int (by decide +kernel) (pa_cons (pe_op op_mulW (pv 2) pe_int) pa_nil)) pe_int))))), ?_⟩
    have a1 : z.natAbs < 2 ^ 100 := ab h0 (by omega)
    have a2 : i.natAbs < 2 ^ 100 := ab h2 (by omega)
    have a3 : ((27644437 : Int)).natAbs < 2 ^ 100 := by decide
    have a4 := wide_lt a3 a2
    refine ⟨_, rfl, z, _, rfl, rfl, wide_mul a1 (show ((1140671 : Int)).natAbs < 2 ^ 100 by decide) (by decide) (by decide) (by decide), ?_⟩
    refine ⟨_, rfl, _, i, rfl, rfl, wide_mul a3 a2 (by decide) (by decide) (by decide), _, rfl, _, i, rfl, rfl, wide_mul a4 a2 (by decide) (by decide) (by decide), _, _, rfl, rfl, ?_⟩
    refine ⟨_, rfl, _, i, rfl, rfl, wide_mul (show ((131 : Int)).natAbs < 2 ^ 100 by decide) a2 (by decide) (by decide) (by decide), _, _, rfl, rfl, _, _, rfl, rfl, .inl ⟨_, rfl, _, _, rfl, rfl, (by decide : (2147483629 : Int) ≠ 0), ?_⟩⟩
    obtain ⟨m, hm⟩ : ∃ m, (z * 1140671 + 27644437 * i * i + 131 * i + 19).fmod 2147483629 = m := ⟨_, rfl⟩
    have m0 : 0 ≤ m := by rw [← hm]; exact fm0 (by decide)
    have m1 : m < 2147483629 := by rw [← hm]; exact fm1 (by decide)
    have a5 : m.natAbs < 2 ^ 100 := ab m0 (by omega)
    refine ⟨_, rfl, _, rfl, m, m, congrArg V.int hm, congrArg V.int hm, wide_mul a5 a5 (by decide) (by decide) (by decide), ?_⟩
    refine ⟨_, rfl, _, i, rfl, rfl, wide_mul (show ((62089 : Int)).natAbs < 2 ^ 100 by decide) a2 (by decide) (by decide) (by decide), _, _, rfl, rfl, _, _, rfl, rfl, .inl ⟨_, rfl, _, _, rfl, rfl, (by decide : (2147483587 : Int) ≠ 0), ?_⟩⟩
    obtain ⟨k, hk⟩ : ∃ k, (m * m + 62089 * i + 32416187).fmod 2147483587 = k := ⟨_, rfl⟩
    have k0 : 0 ≤ k := by rw [← hk]; exact fm0 (by decide)
    have k1 : k < 2147483587 := by rw [← hk]; exact fm1 (by decide)
    have a6 : k.natAbs < 2 ^ 100 := ab k0 (by omega)
    refine ⟨_, rfl, k, _, congrArg V.int hk, rfl, wide_mul a6 (show ((48271 : Int)).natAbs < 2 ^ 100 by decide) (by decide) (by decide) (by decide), .inl ⟨_, rfl, _, _, rfl, rfl, (by decide : (2147483647 : Int) ≠ 0), ?_⟩⟩
    exact q _ (fm0 (by decide)) (Int.lt_trans (fm1 (by decide)) (by decide))
def sp_random : Sp := fun vs H Q _ => ∃ (g : Addr) (b : Int) (n : Nat), vs = [.ref g, .int b] ∧ Gn (n + 1) H g ∧ 1 ≤ b ∧ b < 2 ^ 200 ∧ ∀ (r : Int) H', SameX g H H' → Gn n H' g → 0 ≤ r → r < b → Q (.int r) H'
theorem pow32 (i : Nat) : (2 : Int) ^ (32 * (i + 1)) = 2 ^ (32 * i) * 4294967296 := by
  rw [Nat.mul_add, Int.pow_add]
  rfl
theorem pow_ge1 (i : Nat) : (1 : Int) ≤ 2 ^ i := by
  have := Int.pow_pos (n := 2) (m := i) (by decide)
  omega
theorem c_law_random (T : Txt K mg) : C8.Cal P w K mg base 2 "_law_random" sp_random [] := by
  refine calF T.d_law_random sc_law_random (fun vs H Q E h => ?_) (fun f cdv A outer s H vs Q E hr h => ?_)
  · obtain ⟨_, _, _, rfl, _⟩ := h; rfl
  · obtain ⟨g, b, n, rfl, G, hb, hb2, q⟩ := h
    refine ⟨_, (pss_cons (ps_if (pt_cmpR op_gt (pe_ix ix_list (pv 0) pe_int (fun _ _ => rfl)) pe_int (nomark _))
    (pss_cons (ps_set (i := 2) sc_law_random.nd rfl (Or.inl rfl) (pe_op op_modN (pe_callTy call_int1 (by rfl) T.m_int (by decide +kernel) (pa_cons (pe_ix ix_list (pv 0) pe_int (fun _ _ => rfl)) pa_nil)) (pv 1)))
    (pss_cons (ps_asg (pe_op op_fdivW (pe_ix ix_list (pv 0) pe_int (fun _ _ => rfl)) (pv 1)) (pg_sub (pv 0) pe_int set_list))
    (pss_one (ps_ret (pv 2)))))
    pss_nil)
    (pss_cons (ps_set (i := 2) sc_law_random.nd rfl (Or.inl rfl) pe_int)
    (pss_cons (ps_for PassesOwn.never rfl (pi_range1 (by rfl) T.m_range (pa_cons (pe_op op_add pe_int (pe_op op_fdivW (pe_bits (pv 1)) pe_int)) pa_nil)) (pg_name (i := 3) sc_law_random.nd rfl (Or.inl rfl))
    (pss_cons (ps_asg (pe_op op_add (pe_ix ix_list (pv 0) pe_int (fun _ _ => rfl)) pe_int) (pg_sub (pv 0) pe_int set_list))
    (pss_one (ps_set (i := 2) sc_law_random.nd rfl (Or.inl rfl) (pe_op op_add (pe_op op_mulW (pv 2) pe_int) (C8.pe_c (c_law_hash T) hr (by decide) (by rfl) (pa_cons (pe_ix ix_list (pv 0) pe_int (fun _ _ => rfl)) (pa_cons (pe_ix ix_list (pv 0) pe_int (fun _ _ => rfl)) pa_nil))))))))
    (pss_one (ps_ret (pe_op op_modN (pe_callTy call_int1 (by rfl) T.m_int (by decide +kernel) (pa_cons (pv 2) pa_nil)) (pv 1))))))), ?_⟩
    obtain ⟨x, y, c, hg, x0, y0, y1, c0, c1⟩ := G
    refine ⟨_, rfl, g, _, 0, .int x, rfl, rfl, .inl (.inl hg), atI_nat (j := 0) rfl, x, 0, rfl, rfl, _, rfl, ite2 (fun e => ?_) (fun e => ?_)⟩
    · -- a digit
      refine ⟨_, rfl, g, _, 0, .int x, rfl, rfl, .inl (.inl hg), atI_nat (j := 0) rfl, .inl ⟨x, rfl, _, rfl, x, b, rfl, rfl, by omega, ?_⟩⟩
      refine ⟨_, rfl, g, _, 0, .int x, rfl, rfl, .inl (.inl hg), atI_nat (j := 0) rfl, _, rfl, x, b, rfl, rfl, wide_div (b := 200) (by omega) (ab (by omega) hb2) (by decide) (by decide), _, rfl, g, _, 0, 0, rfl, rfl, hg, rfl, ?_⟩
      exact ⟨_, rfl, q _ _ sameX_upd ⟨x / b, y, c, upd_same, Int.ediv_nonneg x0 (by omega), y0, y1, c0, by omega⟩ (fm0 (by omega)) (fm1 (by omega))⟩
    · -- by the hash
      have ib : Builtin.Int.intBits b ≤ 200 := intBits_le (ab (by omega) hb2)
      have tn : (1 + ((Builtin.Int.intBits b : Nat) : Int) / 30).toNat ≤ 7 := by omega
      refine ⟨_, rfl, b, rfl, _, _, rfl, rfl, wide_div (b := 200) (by decide) (by decide) (by decide) (by decide), _, _, rfl, rfl, _, rfl, by omega, by omega, ?_⟩
      refine for_it walk_range (fun i σ H3 => ∃ (d : Int) (y3 : Option V) (c3 : Int), σ = [some (.ref g), some (.int b), some (.int d), y3] ∧ SameX g H H3 ∧ H3 g = some (.lst [.int x, .int y, .int c3]) ∧ c3 = c + i ∧ 0 ≤ d ∧ d < 2 ^ (32 * i) ∧ i ≤ 7)
        ⟨0, none, c, rfl, .refl _ _, hg, by simp, Int.le_refl _, by decide, by decide⟩ (fun _ _ _ _ _ => True.intro) (fun i v σ H3 H4 hi p yy => ?_) fun σ H3 p => ?_
      · obtain ⟨d, y3, c3, rfl, s3, g3, ec, d0, d1, i7⟩ := p
        obtain ⟨rfl, rfl⟩ := yy
        have i6 : i ≤ 6 := by omega
        have u1 : (upd H4 g (.lst [.int x, .int y, .int (c3 + 1)])) g = some (.lst [.int x, .int y, .int (c3 + 1)]) := upd_same
        refine ⟨_, rfl, g, _, 2, .int c3, rfl, rfl, .inl (.inl g3), atI_nat (j := 2) rfl, _, _, rfl, rfl, _, rfl, g, _, 2, 2, rfl, rfl, g3, rfl, ?_⟩
        have ad : d.natAbs < 2 ^ (32 * i + 1) := ab d0 (Int.lt_of_lt_of_le d1 (by rw [Int.pow_succ]; have := pow_ge1 (32 * i); omega))
        refine ⟨_, rfl, d, _, rfl, rfl, wide_mul ad (show ((2147483587 : Int)).natAbs < 2 ^ 100 by decide) (by omega) (by decide) (by omega), ?_⟩
        refine ⟨_, rfl, g, _, 1, .int y, rfl, rfl, .inl (.inl u1), atI_nat (j := 1) rfl, _, rfl, g, _, 2, .int (c3 + 1), rfl, rfl, .inl (.inl u1), atI_nat (j := 2) rfl, y, c3 + 1, rfl, y0, y1, by omega, by omega, fun r r0 r1 => ⟨_, _, rfl, rfl, ?_⟩⟩
        refine ⟨_, _, c3 + 1, rfl, fun z o nz e => by rw [upd_ne nz]; exact s3 z o nz e, u1, by omega, by have : 0 ≤ d * 2147483587 := Int.mul_nonneg d0 (by decide); omega, ?_, by omega⟩
        rw [pow32]
        have := pow_ge1 (32 * i)
        omega
      · obtain ⟨d, y3, c3, rfl, s3, g3, ec, d0, d1, i7⟩ := p
        refine ⟨_, rfl, .inl ⟨d, rfl, _, rfl, d, b, rfl, rfl, by omega, ?_⟩⟩
        exact q _ _ s3 ⟨x, y, c3, g3, x0, y0, y1, by omega, by omega⟩ (fm0 (by omega)) (fm1 (by omega))
def sp_cell (K : PySem.W.Frag) : Sp := fun vs H Q _ => ∃ (a : Addr) (ns : List Int) (i : Nat), vs = [.ref a, .int i] ∧ SqL K H a (ns.map V.int) ∧ ∀ (r : Int) H', Same H H' → Q (.int r) H'
theorem c_law_cell (T : Txt K mg) : C8.Cal P w K mg base 1 "_law_cell" (sp_cell K) [] := by
  refine calF T.d_law_cell sc_law_cell (fun vs H Q E h => ?_) (fun f cdv A outer s H vs Q E hr h => ?_)
  · obtain ⟨_, _, _, rfl, _⟩ := h; rfl
  · obtain ⟨a, ns, i, rfl, ha, q⟩ := h
    refine ⟨_, (pss_cons (ps_if (pt_cmpR op_lt (pv 1) (pe_callB call_len_seq (by rfl) T.m_len (by decide +kernel) (pa_cons (pv 0) pa_nil)) (nomark _))
    (pss_one (ps_ret (pe_ix ix_list (pv 0) (pv 1) (fun _ _ => rfl))))
    pss_nil)
    (pss_one (ps_ret (pe_op op_modN (pe_callB (cr_sum rfl) (by rfl) T.m_sum (by decide +kernel) (pa_cons (pe_slice sl_list (pv 0) po_none (po_some pe_int)) pa_nil)) pe_int)))), ?_⟩
    refine ⟨_, rfl, _, rfl, a, _, rfl, .inl ha, _, _, rfl, rfl, _, rfl, ite2 (fun e => ?_) (fun e => ?_)⟩
    · have e' := of_decide_eq_true e
      rw [List.length_map] at e'
      have hi : i < ns.length := by omega
      refine ⟨_, rfl, _, rfl, a, _, i, .int ns[i], rfl, rfl, ha, atI_nat ?_, q _ H (Same.refl _)⟩
      rw [List.getElem?_map, List.getElem?_eq_getElem hi]
      rfl
    · refine ⟨_, rfl, 1, rfl, a, _, rfl, ha, fun p hp => ?_⟩
      refine ⟨p, ns.take 1, rfl, .inl (.inl ?_), _, _, rfl, rfl, (by decide : (1000003 : Int) ≠ 0), q _ _ (sameNew hp)⟩
      rw [upd_same, show ((1 : Int)) = ((1 : Nat) : Int) from rfl, cutV_take, List.map_take]
def sp_generator (K : PySem.W.Frag) : Sp := fun vs H Q _ => ∃ (a : Addr) (ns : List Int) (i : Nat), vs = [.ref a, .int i] ∧ SqL K H a (ns.map V.int) ∧ i ≤ 10 ∧ ∀ g H1 H', Same H H1 → H1 g = none → Same H1 H' → Gn 100000 H' g → Q (.ref g) H'
theorem c_law_generator (T : Txt K mg) : C8.Cal P w K mg base 2 "_law_generator" (sp_generator K) [] := by
  refine calF T.d_law_generator sc_law_generator (fun vs H Q E h => ?_) (fun f cdv A outer s H vs Q E hr h => ?_)
  · obtain ⟨_, _, _, rfl, _⟩ := h; rfl
  · obtain ⟨a, ns, i, rfl, ha, hi, q⟩ := h
    refine ⟨_, (pss_cons (ps_set (i := 2) sc_law_generator.nd rfl (Or.inl rfl) (C8.pe_c (c_law_cell T) hr (by decide) (by rfl) (pa_cons (pv 0) (pa_cons (pv 1) pa_nil))))
    (pss_one (ps_ret (pe_lst (pa_cons (pe_op op_modN (pe_callTy call_int1 (by rfl) T.m_int (by decide +kernel) (pa_cons (pe_callB (call_max2 rfl) (by rfl) T.m_max (by decide +kernel) (pa_cons (pe_op op_sub (pv 2) (pe_op op_powB pe_int pe_int)) (pa_cons pe_int pa_nil))) pa_nil)) (pe_op op_powB (pe_op op_powB pe_int pe_int) pe_int)) (pa_cons (pe_op op_modN (pe_callTy call_int1 (by rfl) T.m_int (by decide +kernel) (pa_cons (pv 2) pa_nil)) pe_int) (pa_cons (pe_op op_mulW pe_int (pv 1)) pa_nil))))))), ?_⟩
    refine ⟨_, rfl, _, rfl, a, ns, i, rfl, ha, fun r H1 s1 => ?_⟩
    refine ⟨_, rfl, _, _, rfl, rfl, ⟨by decide, by decide⟩, _, _, rfl, rfl, _, _, rfl, .inl ⟨_, rfl, _, _, rfl, rfl, ⟨by decide, by decide⟩, _, _, rfl, rfl, ⟨by decide, by decide⟩, _, _, rfl, rfl, (by decide : ((10 : Int) ^ Int.toNat 60) ^ Int.toNat 10 ≠ 0), ?_⟩⟩
    refine ⟨_, rfl, .inl ⟨_, rfl, _, _, rfl, rfl, (by decide : (2147483647 : Int) ≠ 0), ?_⟩⟩
    refine ⟨_, rfl, _, _, rfl, rfl, wide_mul (show ((1000 : Int)).natAbs < 2 ^ 100 by decide) (show ((i : Int)).natAbs < 2 ^ 100 by omega) (by decide) (by decide) (by decide), by show 3 ≤ sizeLine; decide, fun g hg => ?_⟩
    refine q g H1 _ s1 hg (sameNew hg) ⟨_, _, _, upd_same, fm0 (by decide), fm0 (by decide), Int.lt_trans (fm1 (by decide)) (by decide), by omega, by omega⟩
end
end K76

set_option Elab.async false
set_option linter.all false
set_option maxRecDepth 100000
set_option maxHeartbeats 4000000
namespace K76
open PySem PySem.Spec PyProof.Rows L2 CK
section
variable {P : Program} {w : World} {K : PySem.W.Frag} {mg : Str → Option Value} {base : Heap}
/-- whole numbers from 0 to most -/
def In0 (most : Int) (ns : List Int) : Prop := ∀ x ∈ ns, 0 ≤ x ∧ x ≤ most
def sp_law_form : Sp := fun vs H Q _ => ∃ (g : Addr) (m n : Nat) (most : Int), vs = [.ref g, .int m, .int most] ∧ Gn (n + (m + 1)) H g ∧ m ≤ 3 ∧ 0 ≤ most ∧ most < 2 ^ 199 ∧
  ∀ p ns H', SameX g H H' → Gn n H' g → TI H' p ns → ns.length = m + 1 → In0 most ns → Q (.ref p) H'
theorem c_law_form (T : Txt K mg) : C8.Cal P w K mg base 3 "_law_form" sp_law_form [] := by
  refine calF T.d_law_form sc_law_form (fun vs H Q E h => ?_) (fun f cdv A outer s H vs Q E hr h => ?_)
  · obtain ⟨_, _, _, _, rfl, _⟩ := h; rfl
  · obtain ⟨g, m, n, most, rfl, G, hm, h0, h1, q⟩ := h
    refine ⟨_, (pss_one (ps_ret (pe_callTy call_tupL (by rfl) T.m_tuple (by decide +kernel) (pa_cons (pe_lc (own := [("_law_turn", 3)]) (by rfl) sc_law_form.nd (pi_range1 (by rfl) T.m_range (pa_cons (pe_op op_add (pv 1) pe_int) pa_nil)) (blkOk_by (N := ["_law_generator_here", "_law_many", "_law_most", "_law_turn"]) (sc := C8.fnScope (topS 28)) (own := [("_law_turn", 3)]) (by decide +kernel)) (fun _ _ _ _ _ => (pg_name (i := 3) sc_law_form.nd rfl (Or.inl rfl))) (fun _ _ _ _ _ => pts_nil) (fun _ _ _ _ _ => (C8.pe_c (c_law_random T) hr (by decide) (by rfl) (pa_cons (pv 0) (pa_cons (pe_op op_add (pv 2) pe_int) pa_nil))))) pa_nil)))), ?_⟩
    refine ⟨_, rfl, _, _, rfl, rfl, _, rfl, by omega, by omega, ?_⟩
    refine fun D hD => lcD_draw (cnt := m + 1) (n := n) (g := g) (most := most) (small5 (by omega)) hD G (fun i H3 R hi s3 G3 q' => ?_) fun H3 ns s3 G3 hL hl hb => ?_
    · exact ⟨rfl, _, rfl, _, rfl, most, 1, rfl, rfl, g, most + 1, _, rfl, G3, by omega, by omega, fun r H4 s4 G4 r0 r1 => q' r H4 s4 G4 r0 (by omega)⟩
    · exact ⟨D, _, rfl, hL, fun l H4 s4 h4 => q l ns H4 (s3.trans (.of s4)) (G3.same s4) h4 hl hb⟩
def sp_law_point : Sp := fun vs H Q _ => ∃ (g : Addr) (m n : Nat) (most : Int), vs = [.ref g, .int m, .int most] ∧ Gn (n + m) H g ∧ m ≤ 3 ∧ 0 ≤ most ∧ most < 2 ^ 199 ∧
  ∀ p ns H', SameX g H H' → Gn n H' g → H p = none → LI H' p ns → ns.length = m → In0 most ns → Q (.ref p) H'
theorem c_law_point (T : Txt K mg) : C8.Cal P w K mg base 3 "_law_point" sp_law_point [] := by
  refine calF T.d_law_point sc_law_point (fun vs H Q E h => ?_) (fun f cdv A outer s H vs Q E hr h => ?_)
  · obtain ⟨_, _, _, _, rfl, _⟩ := h; rfl
  · obtain ⟨g, m, n, most, rfl, G, hm, h0, h1, q⟩ := h
    refine ⟨_, (pss_one (ps_ret (pe_lc (own := [("_law_turn", 3)]) (by rfl) sc_law_point.nd (pi_range1 (by rfl) T.m_range (pa_cons (pv 1) pa_nil)) (blkOk_by (N := ["_law_generator_here", "_law_many", "_law_most", "_law_turn"]) (sc := C8.fnScope (topS 30)) (own := [("_law_turn", 3)]) (by decide +kernel)) (fun _ _ _ _ _ => (pg_name (i := 3) sc_law_point.nd rfl (Or.inl rfl))) (fun _ _ _ _ _ => pts_nil) (fun _ _ _ _ _ => (C8.pe_c (c_law_random T) hr (by decide) (by rfl) (pa_cons (pv 0) (pa_cons (pe_op op_add (pv 2) pe_int) pa_nil))))))), ?_⟩
    refine ⟨_, rfl, _, rfl, by omega, by omega, ?_⟩
    refine fun D hD => lcD_draw (cnt := m) (n := n) (g := g) (most := most) (small5 (by omega)) hD G (fun i H3 R hi s3 G3 q' => ?_) fun H3 ns s3 G3 hL hl hb => ?_
    · exact ⟨rfl, _, rfl, _, rfl, most, 1, rfl, rfl, g, most + 1, _, rfl, G3, by omega, by omega, fun r H4 s4 G4 r0 r1 => q' r H4 s4 G4 r0 (by omega)⟩
    · exact q D ns H3 s3 G3 hD hL hl hb
def sp_form_value : Sp := fun vs H Q _ => ∃ (a b : Addr) (f p : List Int), vs = [.ref a, .ref b] ∧ TI H a f ∧ LI H b p ∧ 0 < f.length ∧ f.length ≤ 4 ∧ p.length + 1 = f.length ∧ Bd f ∧ Bd p ∧ ∀ H', Same H H' → Q (.int (valL f p)) H'
theorem c_law_value (T : Txt K mg) : C8.Cal P w K mg base 1 "_law_value" sp_form_value [] := by
  refine calF T.d_law_value sc_law_value (fun vs H Q E h => ?_) (fun f cdv A outer s H vs Q E hr h => ?_)
  · obtain ⟨_, _, _, _, rfl, _⟩ := h; rfl
  · obtain ⟨a, b, f, p, rfl, ha, hb, h0, h4, hl, bf, bp, q⟩ := h
    refine ⟨_, (pss_one (ps_ret (pe_op op_add (pe_ix ix_tup (pv 0) pe_int (fun _ _ => rfl)) (pe_callB (cr_sum rfl) (by rfl) T.m_sum (by decide +kernel) (pa_cons (pe_lc (own := [("_law_number", 2), ("_law_count", 3)]) (by rfl) sc_law_value.nd (pi_zipB (K := K) rfl (by rfl) T.m_zip (pa_cons (pe_slice sl_drop (pv 0) (po_some pe_int) po_none) (pa_cons (pv 1) pa_nil))) (blkOk_by (N := ["_law_form_here", "_law_point_here", "_law_number", "_law_count"]) (sc := C8.fnScope (topS 29)) (own := [("_law_number", 2), ("_law_count", 3)]) (by decide +kernel)) (fun _ _ _ _ _ => (pg_two (K := K) (i := 2) (j := 3) rfl rfl sc_law_value.nd rfl rfl (Or.inl rfl) (Or.inl rfl))) (fun _ _ _ _ _ => pts_nil) (fun _ _ _ _ _ => (pe_op op_mulW (pv 2) (pv 3)))) pa_nil))))), ?_⟩
    obtain ⟨c, r, rfl⟩ : ∃ c r, f = c :: r := by cases f with | nil => simp at h0 | cons c r => exact ⟨c, r, rfl⟩
    refine ⟨_, rfl, a, _, 0, .int c, rfl, rfl, .inl (.inl ha), atI_nat (j := 0) rfl, ?_⟩
    refine ⟨_, rfl, 1, rfl, a, _, 1, rfl, rfl, rfl, ha, fun p1 H1 s1 h1 => ?_⟩
    have hb1 : LI H1 b p := hb.same s1
    have h1' : TI H1 p1 r := h1
    refine ⟨_, rfl, .T, .L, p1, b, r.map V.int, p.map V.int, rfl, .inl (.inl h1'), .inl (.inl hb1), ?_⟩
    refine fun D hD => lcZ_map vMul (by simp at hl ⊢; omega) (by rw [List.length_map]; exact small5 (by simp at h4; omega)) (fun H' s => ⟨.inl (.inl (s _ _ h1')), .inl (.inl (s _ _ hb1))⟩) (fun i x y H' R hx hy s q' => ?_) hD fun H' s hL => ?_
    · obtain ⟨x', mx, _, rfl⟩ := get_int hx
      obtain ⟨y', my, _, rfl⟩ := get_int hy
      exact ⟨rfl, _, rfl, _, rfl, x', y', rfl, rfl, mulOk (bf x' (List.mem_cons_of_mem _ mx)) (bp y' my), q' _ (Same.refl _)⟩
    · rw [zip_mul] at hL
      exact ⟨D, _, rfl, .inl (.inl hL), _, _, rfl, rfl, q H' (s1.trans s)⟩
end
end K76

set_option Elab.async false
set_option linter.all false
set_option maxRecDepth 100000
set_option maxHeartbeats 4000000
namespace K76
open PySem PySem.Spec PyProof.Rows L2 CK
/-! ### the mathematics -/
def zsub (f g : List Int) : List Int := List.zipWith (fun x y => x - y) f g
def vSub : V → V → V
  | .int i, .int j => .int (i - j)
  | _, _ => .non
theorem zip_sub : ∀ (xs ys : List Int), List.zipWith vSub (xs.map V.int) (ys.map V.int) = (zsub xs ys).map V.int
  | [], _ => by simp [zsub]
  | _ :: _, [] => by simp [zsub]
  | x :: xs, y :: ys => by
    show V.int (x - y) :: _ = V.int (x - y) :: _
    rw [zip_sub xs ys]
    rfl
def le4 (f g : List Int) : Bool := (zle f g).all id
/-- the mark moved -/
def movedL (left : Bool) (pl st en ln : List Int) : Option (List Int) :=
  if le4 pl st = true ∧ pl ≠ st then some pl
  else if le4 en pl = true ∧ en ≠ pl then some (zadd (zsub pl en) (zadd st ln))
  else if le4 st pl = true ∧ le4 pl en = true then some (if left = true then st else zadd st ln)
  else none
def sideS (left : Bool) : Str := if left = true then "left" else "right"
/-- what is told of a list that may be none -/
def Told (H : Hp) (o : Option (List Int)) (v : V) : Prop := match o with
  | none => v = .non
  | some f => ∃ p, v = .ref p ∧ TI H p f
theorem Told.same {H H' : Hp} {o : Option (List Int)} {v : V} (h : Told H o v) (s : Same H H') : Told H' o v := by
  cases o with
  | none => exact h
  | some f =>
    obtain ⟨p, e, t⟩ := h
    exact ⟨p, e, t.same s⟩
theorem zsub_len {f g : List Int} (h : f.length = g.length) : (zsub f g).length = f.length := by
  unfold zsub
  rw [List.length_zipWith]
  omega
section
variable {P : Program} {w : World} {K : PySem.W.Frag} {mg : Str → Option Value} {base : Heap}
def sp_need_form_for : Sp := fun vs H Q _ => ∃ (m : Nat) (a : Addr) (f : List Int), vs = [.int m, .ref a] ∧ TI H a f ∧ Nn f ∧ f.length = m + 1 ∧ m ≤ 3 ∧ ∀ H', Same H H' → Q .non H'
theorem c_need_form_for (T : Txt K mg) : C8.Cal P w K mg base 4 "need_form_for" sp_need_form_for [] := by
  refine calF T.d_need_form_for sc_need_form_for (fun vs H Q E h => ?_) (fun f cdv A outer s H vs Q E hr h => ?_)
  · obtain ⟨_, _, _, rfl, _⟩ := h; rfl
  · obtain ⟨m, a, f, rfl, ha, hn, hl, hm, q⟩ := h
    refine ⟨_, (pss_one (ps_if (pt_not (pt_val (C8.pe_c (c_is_form_for T) hr (by decide) (by rfl) (pa_cons (pv 0) (pa_cons (pv 1) pa_nil)))))
    (pss_one ps_never)
    pss_nil)), ?_⟩
    refine ⟨_, rfl, _, rfl, m, .ref a, rfl, ha.kn, fun b xs e hb => ?_, fun H' s => ⟨_, rfl, ?_⟩⟩
    · cases e
      have := hb.symm.trans ha
      cases this
      exact ⟨by rw [List.length_map]; exact small5 (by omega), kn_ints⟩
    · rw [formB_TI ha hn, decide_eq_true (show (f.length : Int) = (m : Int) + 1 by omega)]
      exact iteF (q H' s)
def sp_form_difference : Sp := fun vs H Q _ => ∃ (a b : Addr) (f g : List Int), vs = [.ref a, .ref b] ∧ TI H a f ∧ TI H b g ∧ f.length ≤ 4 ∧ f.length = g.length ∧ ∀ p H', Same H H' → TI H' p (zsub f g) → Q (.ref p) H'
theorem c_form_difference (T : Txt K mg) : C8.Cal P w K mg base 1 "form_difference" sp_form_difference [] := by
  refine calF T.d_form_difference sc_form_difference (fun vs H Q E h => ?_) (fun f cdv A outer s H vs Q E hr h => ?_)
  · obtain ⟨_, _, _, _, rfl, _⟩ := h; rfl
  · obtain ⟨a, b, f, g, rfl, ha, hb, h4, hl, q⟩ := h
    refine ⟨_, (pss_one (ps_ret (pe_callTy call_tupL (by rfl) T.m_tuple (by decide +kernel) (pa_cons (pe_lc (own := [("left", 2), ("right", 3)]) (by rfl) sc_form_difference.nd (pi_zipB (K := K) rfl (by rfl) T.m_zip (pa_cons (pv 0) (pa_cons (pv 1) pa_nil))) (blkOk_by (N := ["one", "other", "left", "right"]) (sc := C8.fnScope (topS 17)) (own := [("left", 2), ("right", 3)]) (by decide +kernel)) (fun _ _ _ _ _ => (pg_two (K := K) (i := 2) (j := 3) rfl rfl sc_form_difference.nd rfl rfl (Or.inl rfl) (Or.inl rfl))) (fun _ _ _ _ _ => pts_nil) (fun _ _ _ _ _ => (pe_op op_sub (pv 2) (pv 3)))) pa_nil)))), ?_⟩
    refine ⟨_, rfl, _, rfl, .T, .T, a, b, f.map V.int, g.map V.int, rfl, .inl (.inl ha), .inl (.inl hb), ?_⟩
    refine fun D hD => lcZ_map vSub (by simp; omega) (by rw [List.length_map]; exact small5 (by omega)) (fun H' s => ⟨.inl (.inl (s _ _ ha)), .inl (.inl (s _ _ hb))⟩) (fun i x y H' R hx hy s q' => ?_) hD fun H' s hL => ?_
    · obtain ⟨x', mx, _, rfl⟩ := get_int hx
      obtain ⟨y', my, _, rfl⟩ := get_int hy
      exact ⟨rfl, _, rfl, _, rfl, x', y', rfl, rfl, q' _ (Same.refl _)⟩
    · rw [zip_sub] at hL
      exact ⟨D, _, rfl, hL, fun l H2 s2 h2 => q l H2 (s.trans s2) h2⟩
def sp_need_side : Sp := fun vs H Q _ => ∃ left : Bool, vs = [.str (sideS left)] ∧ Q .non H
theorem c_need_side (T : Txt K mg) : C8.Cal P w K mg base 1 "need_side" sp_need_side [] := by
  refine calF T.d_need_side sc_need_side (fun vs H Q E h => ?_) (fun f cdv A outer s H vs Q E hr h => ?_)
  · obtain ⟨_, rfl, _⟩ := h; rfl
  · obtain ⟨left, rfl, q⟩ := h
    refine ⟨_, (pss_one (ps_if (PW.pt (pw_or (pt_not (pt_val (pe_callB call_isK (by rfl) T.m_isinstance (by decide +kernel) (pa_cons (pv 0) (pa_cons (pe_bltn (v := .ty "str") (by rfl) T.m_str (by decide +kernel) rfl) pa_nil))))) (pw_or1 (pt_cmpR op_notIn_seq (pv 0) (C8.pe_gc (v := .ref T.k_SIDES.choose) (by rfl) ⟨_, T.k_SIDES.choose_spec.1, rfl⟩) (by rfl)))))
    (pss_one ps_never)
    pss_nil)), ?_⟩
    refine ⟨_, rfl, .str (sideS left), "str", true, rfl, .str _, by show kitB "str" "str" = some true; decide +kernel, _, rfl, iteF ?_⟩
    refine ⟨_, rfl, T.k_SIDES.choose, _, rfl, .inr (T.k_SIDES.choose_spec.2 _), rfl, rfl, _, rfl, ?_⟩
    cases left with
    | true => exact iteF q
    | false => exact iteF q
end
end K76

set_option Elab.async false
set_option linter.all false
set_option maxRecDepth 100000
set_option maxHeartbeats 4000000
namespace K76
open PySem PySem.Spec PyProof.Rows L2 CK
/-- the four forms -/
structure W4 (H : Hp) (m : Nat) (aP aS aE aL : Addr) (pl st en ln : List Int) : Prop where
  p : TI H aP pl
  s : TI H aS st
  e : TI H aE en
  l : TI H aL ln
  lp : pl.length = m + 1
  ls : st.length = m + 1
  le : en.length = m + 1
  ll : ln.length = m + 1
  m3 : m ≤ 3
theorem W4.same {H H' : Hp} {m : Nat} {aP aS aE aL : Addr} {pl st en ln : List Int} (W : W4 H m aP aS aE aL pl st en ln) (s : Same H H') : W4 H' m aP aS aE aL pl st en ln :=
  ⟨W.p.same s, W.s.same s, W.e.same s, W.l.same s, W.lp, W.ls, W.le, W.ll, W.m3⟩
section
variable {P : Program} {w : World} {K : PySem.W.Frag} {mg : Str → Option Value} {base : Heap}
def sp_mark_moved : Sp := fun vs H Q _ => ∃ (m : Nat) (left : Bool) (aP aS aE aL : Addr) (pl st en ln : List Int), vs = [.int m, .ref aP, .str (sideS left), .ref aS, .ref aE, .ref aL] ∧ W4 H m aP aS aE aL pl st en ln ∧ Nn pl ∧ Nn st ∧ Nn en ∧ Nn ln ∧ le4 st en = true ∧
  ∀ v H', Same H H' → Told H' (movedL left pl st en ln) v → Q v H'
theorem side_eq (left : Bool) : decide (V.str (sideS left) = V.str "left") = left := by cases left <;> decide +kernel
theorem c_mark_moved (T : Txt K mg) : C8.Cal P w K mg base 5 "mark_moved" sp_mark_moved [] := by
  refine calF T.d_mark_moved sc_mark_moved (fun vs H Q E h => ?_) (fun f cdv A outer s H vs Q E hr h => ?_)
  · obtain ⟨_, _, _, _, _, _, _, _, _, _, rfl, _⟩ := h; rfl
  · obtain ⟨m, left, aP, aS, aE, aL, pl, st, en, ln, rfl, W, nP, nS, nE, nL, hse, q⟩ := h
    have m3 := W.m3
    have lp := W.lp
    have ls := W.ls
    have le := W.le
    have ll := W.ll
    refine ⟨_, (pss_cons (ps_expr (C8.pe_c (c_need_many T) hr (by decide) (by rfl) (pa_cons (pv 0) pa_nil)))
    (pss_cons (ps_expr (C8.pe_c (c_need_form_for T) hr (by decide) (by rfl) (pa_cons (pv 0) (pa_cons (pv 1) pa_nil))))
    (pss_cons (ps_expr (C8.pe_c (c_need_side T) hr (by decide) (by rfl) (pa_cons (pv 2) pa_nil)))
    (pss_cons (ps_expr (C8.pe_c (c_need_form_for T) hr (by decide) (by rfl) (pa_cons (pv 0) (pa_cons (pv 3) pa_nil))))
    (pss_cons (ps_expr (C8.pe_c (c_need_form_for T) hr (by decide) (by rfl) (pa_cons (pv 0) (pa_cons (pv 4) pa_nil))))
    (pss_cons (ps_if (pt_not (pt_val (C8.pe_c (c_at_most T) hr (by decide) (by rfl) (pa_cons (pv 3) (pa_cons (pv 4) pa_nil)))))
    (pss_one ps_never)
    pss_nil)
    (pss_cons (ps_expr (C8.pe_c (c_need_form_for T) hr (by decide) (by rfl) (pa_cons (pv 0) (pa_cons (pv 5) pa_nil))))
    (pss_cons (ps_if (PW.pt (pw_and (pt_val (C8.pe_c (c_at_most T) hr (by decide) (by rfl) (pa_cons (pv 1) (pa_cons (pv 3) pa_nil)))) (pw_and1 (pt_cmpR (op_neD hr.units) (pv 1) (pv 3) (nomark _)))))
    (pss_one (ps_ret (pv 1)))
    pss_nil)
    (pss_cons (ps_if (PW.pt (pw_and (pt_val (C8.pe_c (c_at_most T) hr (by decide) (by rfl) (pa_cons (pv 4) (pa_cons (pv 1) pa_nil)))) (pw_and1 (pt_cmpR (op_neD hr.units) (pv 1) (pv 4) (nomark _)))))
    (pss_one (ps_ret (C8.pe_c (c_form_sum T) hr (by decide) (by rfl) (pa_cons (C8.pe_c (c_form_difference T) hr (by decide) (by rfl) (pa_cons (pv 1) (pa_cons (pv 4) pa_nil))) (pa_cons (C8.pe_c (c_form_sum T) hr (by decide) (by rfl) (pa_cons (pv 3) (pa_cons (pv 5) pa_nil))) pa_nil)))))
    pss_nil)
    (pss_cons (ps_if (PW.pt (pw_and (pt_val (C8.pe_c (c_at_most T) hr (by decide) (by rfl) (pa_cons (pv 3) (pa_cons (pv 1) pa_nil)))) (pw_and1 (pt_val (C8.pe_c (c_at_most T) hr (by decide) (by rfl) (pa_cons (pv 1) (pa_cons (pv 4) pa_nil)))))))
    (pss_one (ps_ret (pe_ifExp (pt_cmpR op_eq (pv 2) pe_str (nomark _)) (pv 3) (C8.pe_c (c_form_sum T) hr (by decide) (by rfl) (pa_cons (pv 3) (pa_cons (pv 5) pa_nil))))))
    pss_nil)
    (pss_one (ps_ret pe_non)))))))))))), ?_⟩
    refine ⟨_, rfl, m, rfl, by omega, by omega, ?_⟩
    refine ⟨_, rfl, _, rfl, m, aP, pl, rfl, W.p, nP, lp, m3, fun H1 s1 => ?_⟩
    have W := W.same s1
    refine ⟨_, rfl, left, rfl, ?_⟩
    refine ⟨_, rfl, _, rfl, m, aS, st, rfl, W.s, nS, ls, m3, fun H2 s2 => ?_⟩
    have W := W.same s2
    refine ⟨_, rfl, _, rfl, m, aE, en, rfl, W.e, nE, le, m3, fun H3 s3 => ?_⟩
    have W := W.same s3
    have S3 := (s1.trans s2).trans s3
    try dsimp only
    refine if_not (fun R q' => ⟨_, rfl, _, rfl, aS, aE, st, en, rfl, W.s, W.e, by omega, by omega, fun H' s => ⟨_, rfl, ?_⟩⟩) fun H4 s4 => ?_
    · have h : (zle st en).all id = true := hse
      rw [h]
      exact q' H' s
    have W := W.same s4
    refine ⟨_, rfl, _, rfl, m, aL, ln, rfl, W.l, nL, ll, m3, fun H5 s5 => ?_⟩
    have W := W.same s5
    have S5 := (S3.trans s4).trans s5
    clear s1 s2 s3 s4 s5 S3
    try dsimp only
    refine if_dec (le4 pl st && !decide (pl = st)) (fun R q' => ⟨_, rfl, _, rfl, aP, aS, pl, st, rfl, W.p, W.s, by omega, by omega, fun H' s => ⟨_, rfl, ?_⟩⟩) (fun b H6 s6 => ?_) fun b H6 s6 => ?_
    · by_cases z : le4 pl st = true
      · have h : (zle pl st).all id = true := z
        rw [h]
        have W := W.same s
        refine iteT ⟨_, rfl, _, rfl, dI pl, dI st, dp_ints W.p, dp_ints W.s, shaped_dI _, shaped_dI _, _, rfl, ?_⟩
        rw [eqv_dI]
        rw [z, Bool.true_and] at q'
        exact q' H' s
      · have h : ¬ (zle pl st).all id = true := z
        rw [Bool.not_eq_true] at h z
        rw [h]
        rw [z] at q'
        exact iteF (q' H' s)
    · rw [Bool.and_eq_true, Bool.not_eq_true', decide_eq_false_iff_not] at b
      refine ⟨_, rfl, q _ H6 (S5.trans s6) ?_⟩
      rw [movedL, if_pos b]
      exact ⟨aP, rfl, (W.same s6).p⟩
    have n1 : ¬ (le4 pl st = true ∧ pl ≠ st) := fun y => by
      rw [y.1, decide_eq_false y.2] at b
      exact absurd b (by decide)
    have W := W.same s6
    have S6 := S5.trans s6
    clear s6 S5 b
    try dsimp only
    refine if_dec (le4 en pl && !decide (pl = en)) (fun R q' => ⟨_, rfl, _, rfl, aE, aP, en, pl, rfl, W.e, W.p, by omega, by omega, fun H' s => ⟨_, rfl, ?_⟩⟩) (fun b H7 s7 => ?_) fun b H7 s7 => ?_
    · by_cases z : le4 en pl = true
      · have h : (zle en pl).all id = true := z
        rw [h]
        have W := W.same s
        refine iteT ⟨_, rfl, _, rfl, dI pl, dI en, dp_ints W.p, dp_ints W.e, shaped_dI _, shaped_dI _, _, rfl, ?_⟩
        rw [eqv_dI]
        rw [z, Bool.true_and] at q'
        exact q' H' s
      · have h : ¬ (zle en pl).all id = true := z
        rw [Bool.not_eq_true] at h z
        rw [h]
        rw [z] at q'
        exact iteF (q' H' s)
    · rw [Bool.and_eq_true, Bool.not_eq_true', decide_eq_false_iff_not] at b
      have W := W.same s7
      refine ⟨_, rfl, _, rfl, aP, aE, pl, en, rfl, W.p, W.e, by omega, by omega, fun p H8 s8 t8 => ?_⟩
      have W := W.same s8
      refine ⟨_, rfl, _, rfl, aS, aL, st, ln, rfl, W.s, W.l, by omega, by omega, fun p2 H9 s9 t9 => ?_⟩
      refine ⟨p, p2, zsub pl en, zadd st ln, rfl, t8.same s9, t9, by rw [zsub_len (by omega)]; omega, by rw [zsub_len (by omega), zadd_len (by omega)]; omega, fun p3 H10 s10 t10 => ?_⟩
      refine q _ H10 ((((S6.trans s7).trans s8).trans s9).trans s10) ?_
      rw [movedL, if_neg n1, if_pos ⟨b.1, fun y => b.2 y.symm⟩]
      exact ⟨p3, rfl, t10⟩
    have n2 : ¬ (le4 en pl = true ∧ en ≠ pl) := fun y => by
      rw [y.1, decide_eq_false (fun z => y.2 z.symm)] at b
      exact absurd b (by decide)
    have W := W.same s7
    have S7 := S6.trans s7
    clear s7 S6 b
    try dsimp only
    refine if_dec (le4 st pl && le4 pl en) (fun R q' => ⟨_, rfl, _, rfl, aS, aP, st, pl, rfl, W.s, W.p, by omega, by omega, fun H' s => ⟨_, rfl, ?_⟩⟩) (fun b H8 s8 => ?_) fun b H8 s8 => ?_
    · by_cases z : le4 st pl = true
      · have h : (zle st pl).all id = true := z
        rw [h]
        have W := W.same s
        rw [z, Bool.true_and] at q'
        exact iteT ⟨_, rfl, _, rfl, aP, aE, pl, en, rfl, W.p, W.e, by omega, by omega, fun H'' s' => ⟨_, rfl, q' H'' (s.trans s')⟩⟩
      · have h : ¬ (zle st pl).all id = true := z
        rw [Bool.not_eq_true] at h z
        rw [h]
        rw [z] at q'
        exact iteF (q' H' s)
    · rw [Bool.and_eq_true] at b
      have W := W.same s8
      refine ⟨_, rfl, rfl, _, rfl, ?_⟩
      rw [side_eq]
      cases left with
      | true =>
        refine iteT ⟨_, rfl, q _ H8 (S7.trans s8) ?_⟩
        rw [movedL, if_neg n1, if_neg n2, if_pos b]
        exact ⟨aS, rfl, W.s⟩
      | false =>
        refine iteF ⟨_, rfl, _, rfl, aS, aL, st, ln, rfl, W.s, W.l, by omega, by omega, fun p2 H9 s9 t9 => ?_⟩
        refine q _ H9 ((S7.trans s8).trans s9) ?_
        rw [movedL, if_neg n1, if_neg n2, if_pos b]
        exact ⟨p2, rfl, t9⟩
    refine q _ H8 (S7.trans s8) ?_
    rw [movedL, if_neg n1, if_neg n2, if_neg (fun y => by rw [y.1, y.2] at b; exact absurd b (by decide))]
    exact rfl
end
end K76

set_option Elab.async false
set_option linter.all false
set_option maxRecDepth 100000
set_option maxHeartbeats 2000000
namespace K76
open PySem PySem.Spec PyProof.Rows L2 CK
/-! ### the mathematics of the law -/
theorem zsum_zero : ∀ (r : List Int) (m : Nat), (zmul r (List.replicate m 0)).sum = 0
  | [], m => by simp [zmul]
  | x :: r, 0 => by simp [zmul]
  | x :: r, m + 1 => by
    rw [List.replicate_succ]
    show (x * 0 :: zmul r (List.replicate m 0)).sum = 0
    rw [List.sum_cons, zsum_zero r m]
    omega
theorem zsum_unit : ∀ (r : List Int) (g : Nat → Int) (k : Nat) (e : Int), (∀ i, g i = if i = k then e else 0) → (zmul r ((List.range r.length).map g)).sum = r.getD k 0 * e
  | [], g, k, e, h => by simp [zmul]
  | x :: r, g, k, e, h => by
    have e1 : (List.range (x :: r).length).map g = g 0 :: (List.range r.length).map (fun i => g (i + 1)) := by
      rw [List.length_cons, List.range_succ_eq_map, List.map_cons, List.map_map]
      rfl
    rw [e1]
    show (x * g 0 :: zmul r ((List.range r.length).map fun i => g (i + 1))).sum = _
    rw [List.sum_cons]
    cases k with
    | zero =>
      have e2 : (List.range r.length).map (fun i => g (i + 1)) = List.replicate r.length 0 := by
        rw [List.eq_replicate_iff]
        refine ⟨by simp, fun b hb => ?_⟩
        obtain ⟨i, _, rfl⟩ := List.mem_map.mp hb
        rw [h (i + 1), if_neg (by omega)]
      rw [e2, zsum_zero, h 0, if_pos rfl]
      simp
    | succ k =>
      rw [zsum_unit r (fun i => g (i + 1)) k e (fun i => by rw [h (i + 1)]; by_cases z : i = k <;> simp [z]), h 0, if_neg (by omega)]
      simp
theorem zle_cons (c d : Int) (r s : List Int) : (zle (c :: r) (d :: s)).all id = (decide (c ≤ d) && (zle r s).all id) := rfl
theorem zle_iff : ∀ (r s : List Int), r.length = s.length → ((zle r s).all id = true ↔ ∀ i, i < r.length → r.getD i 0 ≤ s.getD i 0)
  | [], [], _ => by simp [zle]
  | [], _ :: _, h => by simp at h
  | _ :: _, [], h => by simp at h
  | c :: r, d :: s, h => by
    have ih := zle_iff r s (by simpa using h)
    rw [zle_cons, Bool.and_eq_true, decide_eq_true_eq, ih]
    refine ⟨fun z i hi => ?_, fun z => ⟨by simpa using z 0 (by simp), fun i hi => by simpa using z (i + 1) (by simpa using hi)⟩⟩
    cases i with
    | zero => simpa using z.1
    | succ i => simpa using z.2 i (by simpa using hi)
theorem zmul_mono : ∀ (r s p : List Int), (zle r s).all id = true → r.length = s.length → (∀ x ∈ p, 0 ≤ x) → (zmul r p).sum ≤ (zmul s p).sum
  | [], [], p, _, _, _ => by simp [zmul]
  | [], _ :: _, _, _, h, _ => by simp at h
  | _ :: _, [], _, _, h, _ => by simp at h
  | c :: r, d :: s, [], _, _, _ => by simp [zmul]
  | c :: r, d :: s, x :: p, h, hl, hp => by
    rw [zle_cons, Bool.and_eq_true, decide_eq_true_eq] at h
    have ih := zmul_mono r s p h.2 (by simpa using hl) fun y hy => hp y (List.mem_cons_of_mem _ hy)
    have hx := hp x List.mem_cons_self
    show (c * x :: zmul r p).sum ≤ (d * x :: zmul s p).sum
    rw [List.sum_cons, List.sum_cons]
    have := Int.mul_le_mul_of_nonneg_right h.1 hx
    omega
theorem val_mono {f h p : List Int} (hz : (zle f h).all id = true) (hl : f.length = h.length) (h0 : 0 < f.length) (hp : ∀ x ∈ p, 0 ≤ x) : valL f p ≤ valL h p := by
  cases f with
  | nil => simp at h0
  | cons c r =>
  cases h with
  | nil => simp at hl
  | cons d s =>
  rw [zle_cons, Bool.and_eq_true, decide_eq_true_eq] at hz
  have := zmul_mono r s p hz.2 (by simpa using hl) hp
  have h1 := hz.1
  show c + (zmul r p).sum ≤ d + (zmul s p).sum
  omega
/-- the k-th number of what is put in -/
def colL (r : List Int) (fs : List (List Int)) (k : Nat) : Int := (List.zipWith (fun x g => x * g.getD k 0) r fs).sum
theorem step_getD {b g : List Int} {x : Int} (hl : b.length = g.length) (k : Nat) : (zadd b (timesL x g)).getD k 0 = b.getD k 0 + x * g.getD k 0 := by
  rw [List.getD_eq_getElem?_getD, List.getD_eq_getElem?_getD, List.getD_eq_getElem?_getD, zadd, timesL, List.getElem?_zipWith, List.getElem?_map]
  by_cases hk : k < b.length
  · rw [List.getElem?_eq_getElem hk, List.getElem?_eq_getElem (show k < g.length by omega)]
    rfl
  · rw [List.getElem?_eq_none (by omega), List.getElem?_eq_none (show g.length ≤ k by omega)]
    simp
theorem range_getD (b : List Int) : b = (List.range b.length).map fun k => b.getD k 0 := by
  refine List.ext_getElem? fun i => ?_
  by_cases hi : i < b.length
  · rw [List.getElem?_map, List.getElem?_range hi, List.getElem?_eq_getElem hi]
    simp [List.getD_eq_getElem?_getD, List.getElem?_eq_getElem hi]
  · rw [List.getElem?_eq_none (by omega), List.getElem?_eq_none (by simp; omega)]
theorem fold_col : ∀ (r : List Int) (fs : List (List Int)) (b : List Int) (n : Nat), b.length = n → (∀ g ∈ fs, g.length = n) → r.length = fs.length →
    (r.zip fs).foldl stepL b = (List.range n).map fun k => b.getD k 0 + colL r fs k
  | [], fs, b, n, hb, _, _ => by
    subst hb
    show b = _
    simp only [colL, List.zipWith_nil_left, List.sum_nil, Int.add_zero]
    exact range_getD b
  | x :: r, [], b, n, _, _, h => by simp at h
  | x :: r, g :: fs, b, n, hb, hf, hl => by
    have hg : g.length = n := hf g List.mem_cons_self
    show (r.zip fs).foldl stepL (zadd b (timesL x g)) = _
    rw [fold_col r fs (zadd b (timesL x g)) n (by rw [zadd_len (by rw [times_len]; omega)]; exact hb) (fun z hz => hf z (List.mem_cons_of_mem _ hz)) (by simpa using hl)]
    refine List.map_congr_left fun k _ => ?_
    rw [step_getD (by omega) k]
    show b.getD k 0 + x * g.getD k 0 + colL r fs k = b.getD k 0 + (x * g.getD k 0 + colL r fs k)
    omega
theorem ins_eq (c : Int) (r : List Int) (fs : List (List Int)) (m : Nat) (hf : ∀ g ∈ fs, g.length = m + 1) (hl : r.length = fs.length) :
    insL (c :: r) m fs = (c + colL r fs 0) :: (List.range m).map fun i => colL r fs (i + 1) := by
  show (r.zip fs).foldl stepL (c :: List.replicate m 0) = _
  rw [fold_col r fs _ (m + 1) (by simp) hf hl, List.range_succ_eq_map, List.map_cons, List.map_map]
  congr 1
  refine List.map_congr_left fun k hk => ?_
  have : (c :: List.replicate m 0).getD (k + 1) 0 = 0 := by
    rw [List.getD_eq_getElem?_getD]
    simp [List.getElem?_replicate]
    split <;> rfl
  show (c :: List.replicate m 0).getD (k + 1) 0 + colL r fs (k + 1) = _
  rw [this]
  omega
theorem zmul_add : ∀ (r s p : List Int), r.length = s.length → (zmul (zadd r s) p).sum = (zmul r p).sum + (zmul s p).sum
  | [], [], p, _ => by simp [zmul, zadd]
  | [], _ :: _, _, h => by simp at h
  | _ :: _, [], _, h => by simp at h
  | c :: r, d :: s, [], _ => by simp [zmul, zadd]
  | c :: r, d :: s, x :: p, h => by
    have ih := zmul_add r s p (by simpa using h)
    show ((c + d) * x :: zmul (zadd r s) p).sum = (c * x :: zmul r p).sum + (d * x :: zmul s p).sum
    rw [List.sum_cons, List.sum_cons, List.sum_cons, ih, Int.add_mul]
    omega
theorem zmul_times : ∀ (x : Int) (s p : List Int), (zmul (timesL x s) p).sum = x * (zmul s p).sum
  | x, [], p => by simp [zmul, timesL]
  | x, d :: s, [] => by simp [zmul, timesL]
  | x, d :: s, y :: p => by
    show (x * d * y :: zmul (timesL x s) p).sum = x * (d * y :: zmul s p).sum
    rw [List.sum_cons, List.sum_cons, zmul_times x s p, Int.mul_add, Int.mul_assoc]
theorem val_step (b g p : List Int) (x : Int) (hb : 0 < b.length) (hl : b.length = g.length) : valL (zadd b (timesL x g)) p = valL b p + x * valL g p := by
  cases b with
  | nil => simp at hb
  | cons c r =>
  cases g with
  | nil => simp at hl
  | cons d s =>
  show c + x * d + (zmul (zadd r (timesL x s)) p).sum = c + (zmul r p).sum + x * (d + (zmul s p).sum)
  rw [zmul_add r (timesL x s) p (by rw [times_len]; simpa using hl), zmul_times, Int.mul_add]
  omega
theorem fold_val : ∀ (r : List Int) (fs : List (List Int)) (b p : List Int) (n : Nat), b.length = n → 0 < n → (∀ g ∈ fs, g.length = n) → r.length = fs.length →
    valL ((r.zip fs).foldl stepL b) p = valL b p + (zmul r (fs.map fun g => valL g p)).sum
  | [], fs, b, p, n, _, _, _, _ => by simp [zmul]
  | x :: r, [], b, p, n, _, _, _, h => by simp at h
  | x :: r, g :: fs, b, p, n, hb, hn, hf, hl => by
    have hg : g.length = n := hf g List.mem_cons_self
    show valL ((r.zip fs).foldl stepL (zadd b (timesL x g))) p = valL b p + (x * valL g p :: zmul r (fs.map fun g => valL g p)).sum
    rw [fold_val r fs _ p n (by rw [zadd_len (by rw [times_len]; omega)]; exact hb) hn (fun z hz => hf z (List.mem_cons_of_mem _ hz)) (by simpa using hl), val_step b g p x (by omega) (by omega), List.sum_cons]
    omega
theorem val_ins (c : Int) (r : List Int) (fs : List (List Int)) (m : Nat) (p : List Int) (hf : ∀ g ∈ fs, g.length = m + 1) (hl : r.length = fs.length) :
    valL (insL (c :: r) m fs) p = valL (c :: r) (fs.map fun g => valL g p) := by
  show valL ((r.zip fs).foldl stepL (c :: List.replicate m 0)) p = c + (zmul r (fs.map fun g => valL g p)).sum
  rw [fold_val r fs _ p (m + 1) (by simp) (by omega) hf hl]
  congr 1
  show c + (zmul (List.replicate m 0) p).sum = c
  rw [show (zmul (List.replicate m 0) p).sum = 0 by
    have := zmul_times 0 (List.replicate m 0) p
    rw [show timesL 0 (List.replicate m 0) = List.replicate m 0 by unfold timesL; rw [List.map_replicate]; rfl] at this
    omega]
  omega
/-! bounds -/
theorem sum_bound : ∀ (xs : List Int) (B : Int) (n : Nat), xs.length ≤ n → 0 ≤ B → (∀ x ∈ xs, 0 ≤ x ∧ x ≤ B) → 0 ≤ xs.sum ∧ xs.sum ≤ B * n
  | [], B, n, _, hB, _ => ⟨by simp, by rw [List.sum_nil]; exact Int.mul_nonneg hB (by omega)⟩
  | x :: xs, B, 0, h, _, _ => by simp at h
  | x :: xs, B, n + 1, h, hB, hx => by
    have ih := sum_bound xs B n (by simpa using h) hB fun y hy => hx y (List.mem_cons_of_mem _ hy)
    have h1 := hx x List.mem_cons_self
    rw [List.sum_cons]
    have : B * ((n + 1 : Nat) : Int) = B * n + B := by rw [Int.natCast_add, Int.mul_add]; simp
    omega
theorem zw_mem {α β γ : Type} {f : α → β → γ} : ∀ {xs : List α} {ys : List β} {z : γ}, z ∈ List.zipWith f xs ys → ∃ x y, x ∈ xs ∧ y ∈ ys ∧ z = f x y
  | [], _, _, h => by simp at h
  | _ :: _, [], _, h => by simp at h
  | x :: xs, y :: ys, z, h => by
    rw [List.zipWith_cons_cons] at h
    rcases List.mem_cons.mp h with e | e
    · exact ⟨x, y, List.mem_cons_self, List.mem_cons_self, e⟩
    · obtain ⟨a, b, h1, h2, h3⟩ := zw_mem e
      exact ⟨a, b, List.mem_cons_of_mem _ h1, List.mem_cons_of_mem _ h2, h3⟩
theorem mul_bound {x y B C : Int} (hx : 0 ≤ x ∧ x ≤ B) (hy : 0 ≤ y ∧ y ≤ C) : 0 ≤ x * y ∧ x * y ≤ B * C :=
  ⟨Int.mul_nonneg hx.1 hy.1, Int.mul_le_mul hx.2 hy.2 hy.1 (Int.le_trans hx.1 hx.2)⟩
theorem val_bound {f p : List Int} {B C : Int} (hf : In0 B f) (hp : In0 C p) (hl : f.length ≤ 4) (h0 : 0 < f.length) (hB : 0 ≤ B) (hC : 0 ≤ C) : 0 ≤ valL f p ∧ valL f p ≤ B + B * C * 3 := by
  cases f with
  | nil => simp at h0
  | cons c r =>
  have h1 := hf c List.mem_cons_self
  have h2 := sum_bound (zmul r p) (B * C) 3 (by unfold zmul; rw [List.length_zipWith]; simp at hl; omega) (Int.mul_nonneg hB hC) fun z hz => by
    obtain ⟨x, y, hx, hy, rfl⟩ := zw_mem hz
    exact mul_bound (hf x (List.mem_cons_of_mem _ hx)) (hp y hy)
  show 0 ≤ c + (zmul r p).sum ∧ c + (zmul r p).sum ≤ B + B * C * 3
  exact ⟨by omega, by have := h2.2; simp at this; omega⟩
theorem getD_bound {B : Int} {g : List Int} (hg : In0 B g) (hB : 0 ≤ B) (k : Nat) : 0 ≤ g.getD k 0 ∧ g.getD k 0 ≤ B := by
  rw [List.getD_eq_getElem?_getD]
  cases h : g[k]? with
  | none => exact ⟨Int.le_refl 0, hB⟩
  | some z => exact hg z (List.mem_of_getElem? h)
theorem col_bound {r : List Int} {fs : List (List Int)} {B C : Int} (hr : In0 B r) (hf : ∀ g ∈ fs, In0 C g) (hl : r.length ≤ 3) (hB : 0 ≤ B) (hC : 0 ≤ C) (k : Nat) : 0 ≤ colL r fs k ∧ colL r fs k ≤ B * C * 3 := by
  have h2 := sum_bound (List.zipWith (fun x g => x * g.getD k 0) r fs) (B * C) 3 (by rw [List.length_zipWith]; omega) (Int.mul_nonneg hB hC) fun z hz => by
    obtain ⟨x, g, hx, hg, rfl⟩ := zw_mem hz
    exact mul_bound (hr x hx) (getD_bound (hf g hg) hC k)
  exact ⟨h2.1, by have := h2.2; simp at this; exact this⟩
theorem In0.nn {B : Int} {ns : List Int} (h : In0 B ns) : Nn ns := fun x hx => (h x hx).1
theorem In0.bd {B : Int} {ns : List Int} (h : In0 B ns) (hB : B < 2 ^ 1000) : Bd ns := fun x hx => ab (h x hx).1 (Int.lt_of_le_of_lt (h x hx).2 hB)
end K76

set_option Elab.async false
set_option linter.all false
set_option maxRecDepth 100000
set_option maxHeartbeats 4000000
namespace K76
open PySem PySem.Spec PyProof.Rows L2 CK
/-! ### the law's own defs -/
theorem Nn.of {B : Int} {f : List Int} (h : In0 B f) : Nn f := fun x hx => (h x hx).1
theorem In0.up {B C : Int} {f : List Int} (h : In0 B f) (l : B ≤ C) : In0 C f := fun x hx => ⟨(h x hx).1, Int.le_trans (h x hx).2 l⟩
theorem in0_add : ∀ {f g : List Int} {B C : Int}, In0 B f → In0 C g → In0 (B + C) (zadd f g)
  | [], _, _, _, _, _ => fun x hx => by simp [zadd] at hx
  | _ :: _, [], _, _, _, _ => fun x hx => by simp [zadd] at hx
  | a :: f, b :: g, B, C, hf, hg => fun x hx => by
    have e : zadd (a :: f) (b :: g) = (a + b) :: zadd f g := rfl
    rw [e] at hx
    rcases List.mem_cons.mp hx with rfl | hx
    · have h1 := hf a List.mem_cons_self
      have h2 := hg b List.mem_cons_self
      omega
    · exact in0_add (fun y hy => hf y (List.mem_cons_of_mem _ hy)) (fun y hy => hg y (List.mem_cons_of_mem _ hy)) x hx
/-- the lists at ps, in the list at L -/
structure PtL (g : Addr) (H : Hp) (L : Addr) (ps : List Addr) (pts : List (List Int)) : Prop where
  at_ : H L = some (.lst (ps.map V.ref))
  len : ps.length = pts.length
  get : ∀ (i : Nat) (p : Addr) (f : List Int), ps[i]? = some p → pts[i]? = some f → LI H p f
  ne : ∀ p ∈ ps, p ≠ g
  neL : L ≠ g
theorem PtL.sameX {g L : Addr} {H H' : Hp} {ps : List Addr} {pts : List (List Int)} (h : PtL g H L ps pts) (s : SameX g H H') : PtL g H' L ps pts :=
  ⟨s _ _ h.neL h.at_, h.len, fun i p f a b => s _ _ (h.ne p (List.mem_of_getElem? a)) (h.get i p f a b), h.ne, h.neL⟩
theorem PtL.snoc {g L p : Addr} {H H' : Hp} {ps : List Addr} {pts : List (List Int)} {f : List Int} (h : PtL g H L ps pts) (s : SameX g H H') (t : LI H' p f) (hp : p ≠ g) (pL : p ≠ L) (nL : ∀ q ∈ ps, q ≠ L) :
    PtL g (upd H' L (.lst (ps.map V.ref ++ [.ref p]))) L (ps ++ [p]) (pts ++ [f]) := by
  refine ⟨by rw [upd_same, List.map_append]; rfl, by rw [List.length_append, List.length_append, h.len]; rfl, fun i q e a b => ?_, fun q hq => ?_, h.neL⟩
  · by_cases hi : i < ps.length
    · rw [List.getElem?_append_left hi] at a
      rw [List.getElem?_append_left (by rw [← h.len]; exact hi)] at b
      have m := List.mem_of_getElem? a
      show upd _ _ _ _ = _
      rw [upd_ne (nL q m)]
      exact s _ _ (h.ne q m) (h.get i q e a b)
    · rw [List.getElem?_append_right (by omega)] at a
      rw [List.getElem?_append_right (by rw [← h.len]; omega)] at b
      rw [← h.len] at b
      by_cases z : i - ps.length = 0
      · rw [z] at a b
        cases a
        cases b
        show upd _ _ _ _ = _
        rw [upd_ne pL]
        exact t
      · rw [List.getElem?_eq_none (by simp; omega)] at a
        cases a
  · rcases List.mem_append.mp hq with z | z
    · exact h.ne q z
    · rw [List.mem_singleton.mp z]
      exact hp
section
variable {P : Program} {w : World} {K : PySem.W.Frag} {mg : Str → Option Value} {base : Heap}
theorem c_law_added (T : Txt K mg) : C8.Cal P w K mg base 1 "_law_added" sp_form_sum [] := by
  refine calF T.d_law_added sc_law_added (fun vs H Q E h => ?_) (fun f cdv A outer s H vs Q E hr h => ?_)
  · obtain ⟨_, _, _, _, rfl, _⟩ := h; rfl
  · obtain ⟨a, b, f, g, rfl, ha, hb, h4, hl, q⟩ := h
    refine ⟨_, (pss_one (ps_ret (pe_callTy call_tupL (by rfl) T.m_tuple (by decide +kernel) (pa_cons (pe_lc (own := [("_law_low", 2), ("_law_high", 3)]) (by rfl) sc_law_added.nd (pi_zipB (K := K) rfl (by rfl) T.m_zip (pa_cons (pv 0) (pa_cons (pv 1) pa_nil))) (blkOk_by (N := ["_law_one", "_law_other", "_law_low", "_law_high"]) (sc := C8.fnScope (topS 31)) (own := [("_law_low", 2), ("_law_high", 3)]) (by decide +kernel)) (fun _ _ _ _ _ => (pg_two (K := K) (i := 2) (j := 3) rfl rfl sc_law_added.nd rfl rfl (Or.inl rfl) (Or.inl rfl))) (fun _ _ _ _ _ => pts_nil) (fun _ _ _ _ _ => (pe_op op_add (pv 2) (pv 3)))) pa_nil)))), ?_⟩
    refine ⟨_, rfl, _, rfl, .T, .T, a, b, f.map V.int, g.map V.int, rfl, .inl (.inl ha), .inl (.inl hb), ?_⟩
    refine fun D hD => lcZ_map vAdd (by simp; omega) (by rw [List.length_map]; exact small5 (by omega)) (fun H' s => ⟨.inl (.inl (s _ _ ha)), .inl (.inl (s _ _ hb))⟩) (fun i x y H' R hx hy s q' => ?_) hD fun H' s hL => ?_
    · obtain ⟨x', mx, _, rfl⟩ := get_int hx
      obtain ⟨y', my, _, rfl⟩ := get_int hy
      exact ⟨rfl, _, rfl, _, rfl, x', y', rfl, rfl, q' _ (Same.refl _)⟩
    · rw [zip_add] at hL
      exact ⟨D, _, rfl, hL, fun l H2 s2 h2 => q l H2 (s.trans s2) h2⟩
theorem c_law_less (T : Txt K mg) : C8.Cal P w K mg base 1 "_law_less" sp_form_difference [] := by
  refine calF T.d_law_less sc_law_less (fun vs H Q E h => ?_) (fun f cdv A outer s H vs Q E hr h => ?_)
  · obtain ⟨_, _, _, _, rfl, _⟩ := h; rfl
  · obtain ⟨a, b, f, g, rfl, ha, hb, h4, hl, q⟩ := h
    refine ⟨_, (pss_one (ps_ret (pe_callTy call_tupL (by rfl) T.m_tuple (by decide +kernel) (pa_cons (pe_lc (own := [("_law_low", 2), ("_law_high", 3)]) (by rfl) sc_law_less.nd (pi_zipB (K := K) rfl (by rfl) T.m_zip (pa_cons (pv 0) (pa_cons (pv 1) pa_nil))) (blkOk_by (N := ["_law_one", "_law_other", "_law_low", "_law_high"]) (sc := C8.fnScope (topS 32)) (own := [("_law_low", 2), ("_law_high", 3)]) (by decide +kernel)) (fun _ _ _ _ _ => (pg_two (K := K) (i := 2) (j := 3) rfl rfl sc_law_less.nd rfl rfl (Or.inl rfl) (Or.inl rfl))) (fun _ _ _ _ _ => pts_nil) (fun _ _ _ _ _ => (pe_op op_sub (pv 2) (pv 3)))) pa_nil)))), ?_⟩
    refine ⟨_, rfl, _, rfl, .T, .T, a, b, f.map V.int, g.map V.int, rfl, .inl (.inl ha), .inl (.inl hb), ?_⟩
    refine fun D hD => lcZ_map vSub (by simp; omega) (by rw [List.length_map]; exact small5 (by omega)) (fun H' s => ⟨.inl (.inl (s _ _ ha)), .inl (.inl (s _ _ hb))⟩) (fun i x y H' R hx hy s q' => ?_) hD fun H' s hL => ?_
    · obtain ⟨x', mx, _, rfl⟩ := get_int hx
      obtain ⟨y', my, _, rfl⟩ := get_int hy
      exact ⟨rfl, _, rfl, _, rfl, x', y', rfl, rfl, q' _ (Same.refl _)⟩
    · rw [zip_sub] at hL
      exact ⟨D, _, rfl, hL, fun l H2 s2 h2 => q l H2 (s.trans s2) h2⟩
theorem c_law_below (T : Txt K mg) : C8.Cal P w K mg base 1 "_law_below" sp_at_most [] := by
  refine calF T.d_law_below sc_law_below (fun vs H Q E h => ?_) (fun f cdv A outer s H vs Q E hr h => ?_)
  · obtain ⟨_, _, _, _, rfl, _⟩ := h; rfl
  · obtain ⟨a, b, f, g, rfl, ha, hb, h4, hl, q⟩ := h
    refine ⟨_, (pss_one (ps_ret (pe_cmpR (op_eqD hr.units) (pe_lc (own := [("_law_low", 2), ("_law_high", 3)]) (by rfl) sc_law_below.nd (pi_zipB (K := K) rfl (by rfl) T.m_zip (pa_cons (pv 0) (pa_cons (pv 1) pa_nil))) (blkOk_by (N := ["_law_one", "_law_other", "_law_low", "_law_high"]) (sc := C8.fnScope (topS 33)) (own := [("_law_low", 2), ("_law_high", 3)]) (by decide +kernel)) (fun _ _ _ _ _ => (pg_two (K := K) (i := 2) (j := 3) rfl rfl sc_law_below.nd rfl rfl (Or.inl rfl) (Or.inl rfl))) (fun _ _ _ _ _ => (pts_one (pt_cmpR op_gt (pv 2) (pv 3) (nomark _)))) (fun _ _ _ _ _ => (pv 2))) (pe_lst pa_nil) (nomark _)))), ?_⟩
    refine ⟨_, rfl, _, rfl, .T, .T, a, b, f.map V.int, g.map V.int, rfl, .inl (.inl ha), .inl (.inl hb), ?_⟩
    have fl : (f.map V.int).length = f.length := List.length_map ..
    refine fun D hD => lcZ_filt (fun i => decide (f.getD i 0 > g.getD i 0)) (fun i => .int (f.getD i 0)) (by simp; omega) (by rw [fl]; exact small5 (by omega)) (fun H' s => ⟨.inl (.inl (s _ _ ha)), .inl (.inl (s _ _ hb))⟩) (fun i x y H' R R0 hx hy s q1 q0 => ?_) hD fun H' s hL => ?_
    · obtain ⟨x', mx, ex, rfl⟩ := get_int hx
      obtain ⟨y', my, ey, rfl⟩ := get_int hy
      have fx : f.getD i 0 = x' := by rw [List.getD_eq_getElem?_getD, ex]; rfl
      have gy : g.getD i 0 = y' := by rw [List.getD_eq_getElem?_getD, ey]; rfl
      rw [fx, gy] at q1 q0
      refine ⟨rfl, _, rfl, _, rfl, x', y', rfl, rfl, _, rfl, ?_⟩
      by_cases z : x' > y'
      · rw [decide_eq_true z]
        exact iteT ⟨_, rfl, q1 (decide_eq_true z) _ (Same.refl _)⟩
      · rw [decide_eq_false z]
        exact iteF (q0 (decide_eq_false z) _ (Same.refl _))
    · rw [fl] at hL
      have hL' : H' D = some (.lst ((((List.range f.length).filter fun i => decide (f.getD i 0 > g.getD i 0)).map fun i => f.getD i 0).map V.int)) := by
        rw [hL, List.map_map]
        rfl
      refine ⟨by show 0 ≤ sizeLine; omega, fun M hM => ?_⟩
      have sM := sameNew (o := .lst []) hM
      refine ⟨dLI _, dLI [], dp_lints (sM _ _ hL'), .lst (.inl (.inl upd_same)) .nil, shaped_dLI _, shaped_dLI _, ?_⟩
      rw [eqv_dLI]
      have e : decide ((((List.range f.length).filter fun i => decide (f.getD i 0 > g.getD i 0)).map fun i => f.getD i 0) = []) = (zle f g).all id := by
        rw [Bool.eq_iff_iff, decide_eq_true_eq, zle_iff f g hl, List.map_eq_nil_iff, List.filter_eq_nil_iff]
        constructor
        · intro h i hi
          have := h i (List.mem_range.mpr hi)
          rw [decide_eq_true_eq] at this
          omega
        · intro h i hi
          have := h i (List.mem_range.mp hi)
          rw [decide_eq_true_eq]
          omega
      rw [e]
      exact q _ (s.trans sM)
def sp_law_part : Sp := fun vs H Q _ => ∃ (g a : Addr) (f : List Int) (n : Nat) (B : Int), vs = [.ref g, .ref a] ∧ TI H a f ∧ f.length ≤ 4 ∧ In0 B f ∧ B < 2 ^ 199 ∧ Gn (n + f.length) H g ∧
  ∀ p ns H', SameX g H H' → Gn n H' g → TI H' p ns → ns.length = f.length → In0 B ns → Q (.ref p) H'
theorem c_law_part (T : Txt K mg) : C8.Cal P w K mg base 3 "_law_part" sp_law_part [] := by
  refine calF T.d_law_part sc_law_part (fun vs H Q E h => ?_) (fun f cdv A outer s H vs Q E hr h => ?_)
  · obtain ⟨_, _, _, _, _, rfl, _⟩ := h; rfl
  · obtain ⟨g, a, f, n, B, rfl, ha, h4, hB, B2, G, q⟩ := h
    refine ⟨_, (pss_one (ps_ret (pe_callTy call_tupL (by rfl) T.m_tuple (by decide +kernel) (pa_cons (pe_lc (own := [("_law_number", 2)]) (by rfl) sc_law_part.nd (pi_tup (pv 1)) (blkOk_by (N := ["_law_generator_here", "_law_form_here", "_law_number"]) (sc := C8.fnScope (topS 35)) (own := [("_law_number", 2)]) (by decide +kernel)) (fun _ _ _ _ _ => (pg_name (i := 2) sc_law_part.nd rfl (Or.inl rfl))) (fun _ _ _ _ _ => pts_nil) (fun _ _ _ _ _ => (C8.pe_c (c_law_random T) hr (by decide) (by rfl) (pa_cons (pv 0) (pa_cons (pe_op op_add (pv 2) pe_int) pa_nil))))) pa_nil)))), ?_⟩
    have fl : (f.map V.int).length = f.length := List.length_map ..
    refine ⟨_, rfl, a, rfl, ⟨_, .inl (.inl ha)⟩, fun D hD => ?_⟩
    have Dg := G.ne hD
    refine lc_tup (K := K) (a := a) (xs := f.map V.int) (fun i H3 => SameX g H H3 ∧ Gn (n + (f.length - i)) H3 g ∧ i ≤ f.length ∧ ∃ ns, H3 D = some (.lst (ns.map V.int)) ∧ ns.length = i ∧ In0 B ns)
      ⟨sameX_new hD, G.upd Dg, Nat.zero_le _, [], upd_same, rfl, fun x hx => absurd hx List.not_mem_nil⟩ (fun i H3 _ p => .inl (.inl (p.1.tup G ha))) (fun i x H3 hx p => ?_) fun H3 p => ?_
    · obtain ⟨s3, G3, hi, ns, hL, ln, bn⟩ := p
      obtain ⟨x', mx, ex, rfl⟩ := get_int hx
      have hi' : i < f.length := (List.getElem?_eq_some_iff.mp ex).1
      have hx' := hB x' mx
      refine ⟨rfl, yes_if ⟨_, rfl, _, rfl, x', 1, rfl, rfl, g, x' + 1, n + (f.length - (i + 1)), rfl, ?_, by omega, by omega, fun r H4 s4 G4 r0 r1 => ?_⟩⟩
      · rw [show n + (f.length - (i + 1)) + 1 = n + (f.length - i) by omega]
        exact G3
      · refine ⟨_, s4 _ _ Dg hL, by rw [List.length_map]; exact small5 (by omega), (s3.trans s4).upd2 hD, G4.upd Dg, hi', ns ++ [r], by rw [upd_same, List.map_append]; rfl, by rw [List.length_append, ln]; rfl, fun z hz => ?_⟩
        rcases List.mem_append.mp hz with y | y
        · exact bn z y
        · rw [List.mem_singleton.mp y]
          exact ⟨r0, by omega⟩
    · obtain ⟨s3, G3, hi, ns, hL, ln, bn⟩ := p
      rw [fl] at ln
      refine ⟨D, _, rfl, hL, fun l H4 s4 h4 => q l ns H4 (s3.trans (.of s4)) (Gn.same ?_ s4) h4 ln bn⟩
      rw [fl, Nat.sub_self] at G3
      exact G3
end
end K76

set_option Elab.async false
set_option linter.all false
set_option maxRecDepth 100000
set_option maxHeartbeats 4000000
namespace K76
open PySem PySem.Spec PyProof.Rows L2 CK
section
variable {P : Program} {w : World} {K : PySem.W.Frag} {mg : Str → Option Value} {base : Heap}
theorem flat_rep' (v : V) : ∀ n : Nat, (List.replicate n [v]).flatten = List.replicate n v
  | 0 => rfl
  | n + 1 => by rw [List.replicate_succ, List.flatten_cons, flat_rep' v n, List.replicate_succ]; rfl
def sp_law_spots : Sp := fun vs H Q _ => ∃ (g : Addr) (m n : Nat), vs = [.ref g, .int m] ∧ m ≤ 3 ∧ Gn (n + 9) H g ∧
  ∀ L ps pts H', SameX g H H' → Gn n H' g → H L = none → PtL g H' L ps pts → (∀ f ∈ pts, f.length = m ∧ In0 3 f) → pts.length = 4 → Q (.ref L) H'
theorem c_law_spots (T : Txt K mg) : C8.Cal P w K mg base 4 "_law_spots" sp_law_spots [] := by
  refine calF T.d_law_spots sc_law_spots (fun vs H Q E h => ?_) (fun f cdv A outer s H vs Q E hr h => ?_)
  · obtain ⟨_, _, _, rfl, _⟩ := h; rfl
  · obtain ⟨g, m, n, rfl, hm, G, q⟩ := h
    refine ⟨_, (pss_one (ps_ret (pe_op op_cat (pe_lst (pa_cons (pe_op op_rep (pe_lst (pa_cons pe_int pa_nil)) (pv 1)) pa_nil)) (pe_lc (own := [("_law_turn", 2)]) (by rfl) sc_law_spots.nd (pi_range1 (by rfl) T.m_range (pa_cons pe_int pa_nil)) (blkOk_by (N := ["_law_generator_here", "_law_many", "_law_turn"]) (sc := C8.fnScope (topS 34)) (own := [("_law_turn", 2)]) (by decide +kernel)) (fun _ _ _ _ _ => (pg_name (i := 2) sc_law_spots.nd rfl (Or.inl rfl))) (fun _ _ _ _ _ => pts_nil) (fun _ _ _ _ _ => (C8.pe_c (c_law_point T) hr (by decide) (by rfl) (pa_cons (pv 0) (pa_cons (pv 1) (pa_cons pe_int pa_nil))))))))), ?_⟩
    refine ⟨by show 1 ≤ sizeLine; decide, fun l0 n0 => ⟨_, rfl, l0, m, _, rfl, rfl, upd_same, by omega, by omega, by rw [sizeLine_eq]; simp; omega, fun z nz => ⟨by show 1 ≤ sizeLine; decide, fun L1 n1 => ?_⟩⟩⟩
    rw [flat_rep', Int.toNat_natCast] at n1 ⊢
    have s0 := sameNew (o := .lst [V.int 0]) n0
    have s1 := sameNew (o := .lst (List.replicate m (V.int 0))) nz
    have s2 := sameNew (o := .lst [V.ref z]) n1
    have S2 := (s0.trans s1).trans s2
    have hz : LI (upd (upd (upd H l0 (.lst [V.int 0])) z (.lst (List.replicate m (V.int 0)))) L1 (.lst [V.ref z])) z (List.replicate m 0) := by
      have := s2 _ _ (upd_same (H := upd H l0 (.lst [V.int 0])) (a := z) (o := .lst (List.replicate m (V.int 0))))
      show _ = _
      rw [this, List.map_replicate]
    have h1 : (upd (upd (upd H l0 (.lst [V.int 0])) z (.lst (List.replicate m (V.int 0)))) L1 (.lst [V.ref z])) L1 = some (.lst [V.ref z]) := upd_same
    have G2 := G.same S2
    have zg : z ≠ g := (G.same s0).ne nz
    have L1g : L1 ≠ g := (G.same (s0.trans s1)).ne n1
    generalize upd (upd (upd H l0 (.lst [V.int 0])) z (.lst (List.replicate m (V.int 0)))) L1 (.lst [V.ref z]) = H2 at S2 hz h1 G2
    refine ⟨3, rfl, by decide, by decide, fun D hD => ?_⟩
    have Dg := G2.ne hD
    refine lc_range (lo := 0) (n := 3) (fun i H3 => SameX g H2 H3 ∧ Gn (n + 3 * (3 - i)) H3 g ∧ i ≤ 3 ∧ ∃ ps pts, PtL g H3 D ps pts ∧ pts.length = i ∧ (∀ q ∈ ps, q ≠ D) ∧ ∀ f ∈ pts, f.length = m ∧ In0 3 f)
      ⟨sameX_new hD, (G2.upd Dg).le (by omega), Nat.zero_le _, [], [], ⟨upd_same, rfl, fun i p f h1 _ => by simp at h1, fun p hp => absurd hp List.not_mem_nil, Dg⟩, rfl, fun q hq => absurd hq List.not_mem_nil, fun q hq => absurd hq List.not_mem_nil⟩ (fun i H3 hi p => ?_) fun H3 p => ?_
    · obtain ⟨s3, G3, _, ps, pts, F, lf, nD, bf⟩ := p
      refine ⟨rfl, yes_if ⟨_, rfl, _, rfl, g, m, n + 3 * (3 - (i + 1)), 3, rfl, G3.le (by omega), hm, by decide, by decide, fun p ns H4 s4 G4 np hp lp bp => ?_⟩⟩
      have pD : p ≠ D := fun e => by rw [e, F.at_] at np; cases np
      have fin := F.snoc s4 hp (G3.ne np) pD nD
      refine ⟨_, s4 D _ Dg F.at_, by rw [List.length_map, F.len]; exact small5 (by omega), (s3.trans s4).upd2 hD, G4.upd Dg, hi, ps ++ [p], pts ++ [ns], fin, by rw [List.length_append, lf]; rfl, fun q hq => ?_, fun f hf => ?_⟩
      · rcases List.mem_append.mp hq with y | y
        · exact nD q y
        · rw [List.mem_singleton.mp y]
          exact pD
      · rcases List.mem_append.mp hf with y | y
        · exact bf f y
        · rw [List.mem_singleton.mp y]
          exact ⟨lp, bp⟩
    · obtain ⟨s3, G3, _, ps, pts, F, lf, nD, bf⟩ := p
      have h1' := s3 _ _ L1g h1
      have hz' : LI H3 z (List.replicate m 0) := s3 _ _ zg hz
      refine ⟨L1, D, _, _, rfl, rfl, h1', F.at_, by rw [List.length_map, F.len, lf]; show 1 + 3 ≤ sizeLine; decide, fun L nL => ?_⟩
      have sL := sameNew (o := .lst ([V.ref z] ++ ps.map V.ref)) nL
      have LH : H L = none := by
        match e : H L with
        | none => rfl
        | some o =>
          by_cases y : L = g
          · subst y
            obtain ⟨_, e'⟩ := G3.at
            rw [e'] at nL
            cases nL
          · have := s3 L o y (S2 _ _ e)
            rw [nL] at this
            cases this
      refine q L (z :: ps) (List.replicate m 0 :: pts) _ (((SameX.of S2).trans s3).trans (.of sL)) (G3.same sL) LH ⟨upd_same, by rw [List.length_cons, List.length_cons, F.len], fun i p f a b => ?_, fun p hp => ?_, G3.ne nL⟩ (fun f hf => ?_) (by rw [List.length_cons, lf])
      · cases i with
        | zero =>
          cases a
          cases b
          exact sL _ _ hz'
        | succ i => exact sL _ _ (F.get i p f a b)
      · rcases List.mem_cons.mp hp with rfl | hp
        · exact zg
        · exact F.ne p hp
      · rcases List.mem_cons.mp hf with rfl | hf
        · exact ⟨List.length_replicate .., fun x hx => by rw [List.eq_of_mem_replicate hx]; decide⟩
        · exact bf f hf
def sp_law_spot : Sp := fun vs H Q _ => ∃ (g aS aT : Addr) (m n : Nat) (most : Int) (st sr : List Int), vs = [.ref g, .int m, .int most, .ref aS, .ref aT] ∧ TI H aS st ∧ TI H aT sr ∧ st.length = m + 1 ∧ sr.length = m + 1 ∧ m ≤ 3 ∧ 1 ≤ most ∧ most < 2 ^ 190 ∧
  In0 most st ∧ In0 most sr ∧ Gn (n + 20) H g ∧ ∀ p ns H', SameX g H H' → Gn n H' g → TI H' p ns → ns.length = m + 1 → In0 (3 * most + 1) ns → Q (.ref p) H'
theorem c_law_spot (T : Txt K mg) : C8.Cal P w K mg base 4 "_law_spot" sp_law_spot [] := by
  refine calF T.d_law_spot sc_law_spot (fun vs H Q E h => ?_) (fun f cdv A outer s H vs Q E hr h => ?_)
  · obtain ⟨_, _, _, _, _, _, _, _, rfl, _⟩ := h; rfl
  · obtain ⟨g, aS, aT, m, n, most, st, sr, rfl, tS, tT, lS, lT, m3, m0, m1, bS, bT, G, q⟩ := h
    refine ⟨_, (pss_cons (ps_par (i := 5) (j := 6) (by rfl) sc_law_spot.nd rfl rfl (by decide) rfl rfl (pa_cons (C8.pe_c (c_law_random T) hr (by decide) (by rfl) (pa_cons (pv 0) (pa_cons pe_int pa_nil))) (pa_cons (C8.pe_c (c_law_added T) hr (by decide) (by rfl) (pa_cons (pv 3) (pa_cons (pv 4) pa_nil))) pa_nil)) (by rfl))
    (pss_cons (ps_if (pt_cmpR op_eq (pv 5) pe_int (nomark _))
    (pss_one (ps_ret (pv 3)))
    pss_nil)
    (pss_cons (ps_if (pt_cmpR op_eq (pv 5) pe_int (nomark _))
    (pss_one (ps_ret (pv 6)))
    pss_nil)
    (pss_cons (ps_if (pt_cmpR op_eq (pv 5) pe_int (nomark _))
    (pss_one (ps_ret (C8.pe_c (c_law_part T) hr (by decide) (by rfl) (pa_cons (pv 0) (pa_cons (pv 3) pa_nil)))))
    pss_nil)
    (pss_cons (ps_if (pt_cmpR op_eq (pv 5) pe_int (nomark _))
    (pss_one (ps_ret (C8.pe_c (c_law_added T) hr (by decide) (by rfl) (pa_cons (pv 6) (pa_cons (C8.pe_c (c_law_form T) hr (by decide) (by rfl) (pa_cons (pv 0) (pa_cons (pv 1) (pa_cons (pv 2) pa_nil)))) pa_nil)))))
    pss_nil)
    (pss_cons (ps_if (pt_cmpR op_eq (pv 5) pe_int (nomark _))
    (pss_one (ps_ret (C8.pe_c (c_law_added T) hr (by decide) (by rfl) (pa_cons (pv 3) (pa_cons (C8.pe_c (c_law_part T) hr (by decide) (by rfl) (pa_cons (pv 0) (pa_cons (pv 4) pa_nil))) pa_nil)))))
    pss_nil)
    (pss_cons (ps_if (pt_cmpR op_eq (pv 5) pe_int (nomark _))
    (pss_one (ps_ret (C8.pe_c (c_law_form T) hr (by decide) (by rfl) (pa_cons (pv 0) (pa_cons (pv 1) (pa_cons (pe_op op_mulW pe_int (pv 2)) pa_nil))))))
    pss_nil)
    (pss_cons (ps_asg (pe_tup (pa_cons (pe_ix ix_list (pe_lst (pa_cons (pv 3) (pa_cons (pv 6) pa_nil))) (pe_op op_modN (pe_callTy call_int1 (by rfl) T.m_int (by decide +kernel) (pa_cons (pv 5) pa_nil)) pe_int) (fun _ _ => rfl)) (pa_cons (C8.pe_c (c_law_random T) hr (by decide) (by rfl) (pa_cons (pv 0) (pa_cons (pe_op op_add (pv 1) pe_int) pa_nil))) pa_nil))) (pg_two (K := K) (i := 7) (j := 8) rfl rfl sc_law_spot.nd rfl rfl (Or.inr rfl) (Or.inr rfl)))
    (pss_one (ps_ret (pe_callTy call_tupL (by rfl) T.m_tuple (by decide +kernel) (pa_cons (pe_lc (own := [("_law_index", 9)]) (by rfl) sc_law_spot.nd (pi_range1 (by rfl) T.m_range (pa_cons (pe_op op_add (pv 1) pe_int) pa_nil)) (blkOk_by (N := ["_law_generator_here", "_law_many", "_law_most", "_law_start", "_law_stretch", "_law_way", "_law_end", "_law_edge", "_law_at", "_law_index"]) (sc := C8.fnScope (topS 36)) (own := [("_law_index", 9)]) (by decide +kernel)) (fun _ _ _ _ _ => (pg_name (i := 9) sc_law_spot.nd rfl (Or.inl rfl))) (fun _ _ _ _ _ => pts_nil) (fun _ _ _ _ _ => (pe_callB (call_max2 rfl) (by rfl) T.m_max (by decide +kernel) (pa_cons pe_int (pa_cons (pe_op op_add (pe_ix ix_tupH (pv 7) (pv 9) (fun _ _ => rfl)) (pe_ifExp (pt_cmpR op_eq (pv 9) (pv 8) (nomark _)) pe_int (pe_op op_sub pe_int (C8.pe_c (c_law_random T) hr (by decide) (by rfl) (pa_cons (pv 0) (pa_cons pe_int pa_nil)))))) pa_nil))))) pa_nil)))))))))))), ?_⟩
    have q' : ∀ p ns (B : Int) H', SameX g H H' → Gn n H' g → TI H' p ns → ns.length = m + 1 → In0 B ns → B ≤ 3 * most + 1 → Q (.ref p) H' := fun p ns B H' s G t l b h => q p ns H' s G t l (b.up h)
    refine ⟨_, rfl, g, 8, n + 19, rfl, G, by decide, by decide, fun way H1 s1 G1 w0 w1 => ?_⟩
    have tS1 : TI H1 aS st := s1.tup G tS
    have tT1 : TI H1 aT sr := s1.tup G tT
    refine ⟨_, rfl, _, rfl, aS, aT, st, sr, rfl, tS1, tT1, by omega, by omega, fun aE H2 s2 tE => ⟨_, _, rfl, ?_⟩⟩
    have S2 : SameX g H H2 := s1.trans (.of s2)
    have G2 := G1.same s2
    have tS := tS1.same s2
    have tT := tT1.same s2
    have bE := in0_add bS bT
    have lE : (zadd st sr).length = m + 1 := by rw [zadd_len (by omega)]; exact lS
    clear s1 s2 tS1 tT1 G1 G
    -- the ways
    refine ⟨_, rfl, rfl, _, rfl, ite2 (fun e => ?_) (fun e => ?_)⟩
    · exact ⟨_, rfl, q' aS st most H2 S2 (G2.le (by omega)) tS lS bS (by omega)⟩
    refine ⟨_, rfl, rfl, _, rfl, ite2 (fun e => ?_) (fun e => ?_)⟩
    · exact ⟨_, rfl, q' aE _ _ H2 S2 (G2.le (by omega)) tE lE bE (by omega)⟩
    refine ⟨_, rfl, rfl, _, rfl, ite2 (fun e => ?_) (fun e => ?_)⟩
    · exact ⟨_, rfl, _, rfl, g, aS, st, n, most, rfl, tS, by omega, bS, by omega, G2.le (by omega), fun p ns H3 s3 G3 t3 l3 b3 => q' p ns most H3 (S2.trans s3) G3 t3 (by omega) b3 (by omega)⟩
    refine ⟨_, rfl, rfl, _, rfl, ite2 (fun e => ?_) (fun e => ?_)⟩
    · refine ⟨_, rfl, _, rfl, _, rfl, _, rfl, g, m, n, most, rfl, G2.le (by omega), m3, by omega, by omega, fun p ns H3 s3 G3 t3 l3 b3 => ?_⟩
      have tE3 : TI H3 aE (zadd st sr) := s3.tup G2 tE
      exact ⟨aE, p, _, ns, rfl, tE3, t3, by omega, by omega, fun p2 H4 s4 t4 => q' p2 _ _ H4 (S2.trans (s3.trans (.of s4))) (G3.same s4) t4 (by rw [zadd_len (by omega)]; exact lE) (in0_add bE b3) (by omega)⟩
    refine ⟨_, rfl, rfl, _, rfl, ite2 (fun e => ?_) (fun e => ?_)⟩
    · refine ⟨_, rfl, _, rfl, _, rfl, g, aT, sr, n, most, rfl, tT, by omega, bT, by omega, G2.le (by omega), fun p ns H3 s3 G3 t3 l3 b3 => ?_⟩
      have tS3 : TI H3 aS st := s3.tup G2 tS
      exact ⟨aS, p, _, ns, rfl, tS3, t3, by omega, by omega, fun p2 H4 s4 t4 => q' p2 _ _ H4 (S2.trans (s3.trans (.of s4))) (G3.same s4) t4 (by rw [zadd_len (by omega)]; exact lS) (in0_add bS b3) (by omega)⟩
    refine ⟨_, rfl, rfl, _, rfl, ite2 (fun e => ?_) (fun e => ?_)⟩
    · refine ⟨_, rfl, _, rfl, _, rfl, _, _, rfl, rfl, wide_mul (show ((2 : Int)).natAbs < 2 ^ 100 by decide) (show most.natAbs < 2 ^ 190 from ab (by omega) m1) (by decide) (by decide) (by decide), g, m, n, 2 * most, rfl, G2.le (by omega), m3, by omega, by omega, fun p ns H3 s3 G3 t3 l3 b3 => ?_⟩
      exact q' p ns _ H3 (S2.trans s3) G3 t3 l3 b3 (by omega)
    -- beside an edge
    refine ⟨_, rfl, _, rfl, by show 2 ≤ sizeLine; decide, fun L nL => ⟨_, rfl, .inl ⟨way, rfl, _, _, rfl, rfl, (by decide : (2 : Int) ≠ 0), ?_⟩⟩⟩
    have LG := G2.ne nL
    have sL := sameNew (o := .lst [V.ref aS, V.ref aE]) nL
    have m20 : way.fmod 2 = 0 ∨ way.fmod 2 = 1 := by
      have h1 := fm0 (i := way) (j := 2) (by decide)
      have h2 := fm1 (i := way) (j := 2) (by decide)
      omega
    obtain ⟨aD, ed, eD, tD, lD, bD⟩ : ∃ aD ed, atI [V.ref aS, V.ref aE] (way.fmod 2) = some (.ref aD) ∧ TI H2 aD ed ∧ ed.length = m + 1 ∧ In0 (most + most) ed := by
      rcases m20 with z | z
      · rw [z]
        exact ⟨aS, st, rfl, tS, lS, bS.up (by omega)⟩
      · rw [z]
        exact ⟨aE, _, rfl, tE, lE, bE⟩
    refine ⟨L, _, _, _, rfl, rfl, .inl (.inl upd_same), eD, ?_⟩
    refine ⟨_, rfl, _, rfl, _, _, rfl, rfl, g, (m : Int) + 1, n + 10, rfl, (G2.upd LG).le (by omega), by omega, by omega, fun at_ H3 s3 G3 a0 a1 => ⟨by show 2 ≤ sizeLine; decide, fun t nt => ⟨t, _, rfl, .inl (.inl upd_same), rfl, _, _, rfl, _, _, rfl, rfl, ?_⟩⟩⟩
    have sT := sameNew (o := .tup [V.ref aD, V.int at_]) nt
    have tD3 : TI (upd H3 t (.tup [V.ref aD, V.int at_])) aD ed := sT _ _ (s3.tup (G2.upd LG) (sL _ _ tD))
    have S3 : SameX g H (upd H3 t (.tup [V.ref aD, V.int at_])) := ((S2.trans (.of sL)).trans s3).trans (.of sT)
    have G3 := G3.same sT
    generalize upd H3 t (.tup [V.ref aD, V.int at_]) = H4 at S3 G3 tD3
    refine ⟨_, rfl, _, _, rfl, rfl, (m : Int) + 1, rfl, by omega, by omega, ?_⟩
    refine fun D nD => lcD_draw (cnt := m + 1) (n := n) (g := g) (most := 3 * most + 1) (small5 (by omega)) nD (G3.le (by omega)) (fun i H5 R hi s5 G5 qR => ?_) fun H5 ns s5 G5 hL hl hb => ?_
    · have hi' : i < ed.length := by omega
      have hx := bD ed[i] (List.getElem_mem hi')
      have gx : (ed.map V.int)[i]? = some (.int ed[i]) := by rw [List.getElem?_map, List.getElem?_eq_getElem hi']; rfl
      have tD5 : H5 aD = some (.tup (ed.map V.int)) := s5.tup G3 tD3
      refine ⟨rfl, _, rfl, _, rfl, aD, _, _, _, rfl, rfl, tD5, by rw [Int.zero_add]; exact atI_nat gx, ?_⟩
      refine ⟨_, rfl, _, rfl, rfl, _, rfl, ite2 (fun e => ?_) (fun e => ?_)⟩
      · refine ⟨_, _, rfl, rfl, 0, _, rfl, ?_⟩
        refine qR _ H5 (SameX.refl _ _) (G5.le (by omega)) ?_ ?_
        · split <;> omega
        · split <;> omega
      · refine ⟨_, rfl, g, 2, _, rfl, G5, by decide, by decide, fun r H6 s6 G6 r0 r1 => ⟨_, _, rfl, rfl, _, _, rfl, rfl, 0, _, rfl, ?_⟩⟩
        refine qR _ H6 s6 G6 ?_ ?_
        · split <;> omega
        · split <;> omega
    · exact ⟨D, _, rfl, hL, fun l H6 s6 h6 => q' l ns _ H6 ((S3.trans s5).trans (.of s6)) (G5.same s6) h6 hl hb (by omega)⟩
end
end K76

set_option Elab.async false
set_option linter.all false
set_option maxRecDepth 100000
set_option maxHeartbeats 4000000
namespace K76
open PySem PySem.Spec PyProof.Rows L2 CK
/-! values -/
theorem zmul_sub : ∀ (r s p : List Int), r.length = s.length → (zmul (zsub r s) p).sum = (zmul r p).sum - (zmul s p).sum
  | [], [], p, _ => by simp [zmul, zsub]
  | [], _ :: _, _, h => by simp at h
  | _ :: _, [], _, h => by simp at h
  | c :: r, d :: s, [], _ => by simp [zmul, zsub]
  | c :: r, d :: s, x :: p, h => by
    have ih := zmul_sub r s p (by simpa using h)
    show ((c - d) * x :: zmul (zsub r s) p).sum = (c * x :: zmul r p).sum - (d * x :: zmul s p).sum
    rw [List.sum_cons, List.sum_cons, List.sum_cons, ih, Int.sub_mul]
    omega
theorem val_add {f h p : List Int} (hl : f.length = h.length) (h0 : 0 < f.length) : valL (zadd f h) p = valL f p + valL h p := by
  match f, h, h0, hl with
  | c :: r, d :: s, _, hl =>
    show (c + d) + (zmul (zadd r s) p).sum = c + (zmul r p).sum + (d + (zmul s p).sum)
    rw [zmul_add r s p (by simpa using hl)]
    omega
theorem val_sub {f h p : List Int} (hl : f.length = h.length) (h0 : 0 < f.length) : valL (zsub f h) p = valL f p - valL h p := by
  match f, h, h0, hl with
  | c :: r, d :: s, _, hl =>
    show (c - d) + (zmul (zsub r s) p).sum = c + (zmul r p).sum - (d + (zmul s p).sum)
    rw [zmul_sub r s p (by simpa using hl)]
    omega
/-- where the mark stands at a point -/
structure Stands (left : Bool) (sp lo hi mo st : Int) : Prop where
  lh : lo ≤ hi
  c1 : sp < lo → st = sp
  c2 : hi < sp → st = sp - hi + lo + mo
  c3 : lo < sp → sp < hi → st = if left = true then lo else lo + mo
  c4 : lo ≤ sp → sp ≤ hi → st = lo ∨ st = lo + mo
theorem stands_of {left : Bool} {m : Nat} {pl st en ln fd p : List Int} (lp : pl.length = m + 1) (ls : st.length = m + 1) (le : en.length = m + 1) (ll : ln.length = m + 1) (hse : le4 st en = true) (hp : ∀ x ∈ p, 0 ≤ x)
    (h : movedL left pl st en ln = some fd) : Stands left (valL pl p) (valL st p) (valL en p) (valL ln p) (valL fd p) ∧ fd.length = m + 1 := by
  have lh := val_mono (f := st) (h := en) (p := p) hse (by omega) (by omega) hp
  unfold movedL at h
  by_cases c1 : le4 pl st = true ∧ pl ≠ st
  · rw [if_pos c1] at h
    cases h
    have := val_mono (f := pl) (h := st) (p := p) c1.1 (by omega) (by omega) hp
    exact ⟨⟨lh, fun _ => rfl, fun _ => by omega, fun _ _ => by omega, fun _ _ => by omega⟩, lp⟩
  rw [if_neg c1] at h
  by_cases c2 : le4 en pl = true ∧ en ≠ pl
  · rw [if_pos c2] at h
    cases h
    have h1 := val_mono (f := en) (h := pl) (p := p) c2.1 (by omega) (by omega) hp
    have l1 : (zsub pl en).length = m + 1 := by rw [zsub_len (by omega)]; exact lp
    have l2 : (zadd st ln).length = m + 1 := by rw [zadd_len (by omega)]; exact ls
    have e : valL (zadd (zsub pl en) (zadd st ln)) p = valL pl p - valL en p + (valL st p + valL ln p) := by
      rw [val_add (by omega) (by omega), val_sub (by omega) (by omega), val_add (by omega) (by omega)]
    rw [e]
    exact ⟨⟨lh, fun _ => by omega, fun _ => by omega, fun _ _ => by omega, fun _ _ => by omega⟩, by rw [zadd_len (by omega)]; exact l1⟩
  rw [if_neg c2] at h
  by_cases c3 : le4 st pl = true ∧ le4 pl en = true
  · rw [if_pos c3] at h
    cases h
    have h1 := val_mono (f := st) (h := pl) (p := p) c3.1 (by omega) (by omega) hp
    have h2 := val_mono (f := pl) (h := en) (p := p) c3.2 (by omega) (by omega) hp
    cases left with
    | true =>
      exact ⟨⟨lh, fun _ => by omega, fun _ => by omega, fun _ _ => rfl, fun _ _ => .inl rfl⟩, ls⟩
    | false =>
      have e : valL (zadd st ln) p = valL st p + valL ln p := val_add (by omega) (by omega)
      have l2 : (zadd st ln).length = m + 1 := by rw [zadd_len (by omega)]; exact ls
      refine ⟨⟨lh, fun _ => by omega, fun _ => by omega, fun _ _ => ?_, fun _ _ => .inr ?_⟩, l2⟩
      · exact e
      · exact e
  rw [if_neg c3] at h
  cases h
section
variable {P : Program} {w : World} {K : PySem.W.Frag} {mg : Str → Option Value} {base : Heap}
def sp_law_due : Sp := fun vs H Q _ => ∃ (m : Nat) (left : Bool) (aP aS aE aL : Addr) (pl st en ln : List Int), vs = [.ref aP, .str (sideS left), .ref aS, .ref aE, .ref aL] ∧ W4 H m aP aS aE aL pl st en ln ∧
  ∀ v H', Same H H' → Told H' (movedL left pl st en ln) v → Q v H'
theorem c_law_due (T : Txt K mg) : C8.Cal P w K mg base 2 "_law_due" sp_law_due [] := by
  refine calF T.d_law_due sc_law_due (fun vs H Q E h => ?_) (fun f cdv A outer s H vs Q E hr h => ?_)
  · obtain ⟨_, _, _, _, _, _, _, _, _, _, rfl, _⟩ := h; rfl
  · obtain ⟨m, left, aP, aS, aE, aL, pl, st, en, ln, rfl, W, q⟩ := h
    have m3 := W.m3
    have lp := W.lp
    have ls := W.ls
    have le := W.le
    have ll := W.ll
    refine ⟨_, (pss_cons (ps_if (PW.pt (pw_and (pt_val (C8.pe_c (c_law_below T) hr (by decide) (by rfl) (pa_cons (pv 0) (pa_cons (pv 2) pa_nil)))) (pw_and1 (pt_cmpR (op_neD hr.units) (pv 0) (pv 2) (nomark _)))))
    (pss_one (ps_ret (pv 0)))
    pss_nil)
    (pss_cons (ps_if (PW.pt (pw_and (pt_val (C8.pe_c (c_law_below T) hr (by decide) (by rfl) (pa_cons (pv 3) (pa_cons (pv 0) pa_nil)))) (pw_and1 (pt_cmpR (op_neD hr.units) (pv 0) (pv 3) (nomark _)))))
    (pss_one (ps_ret (C8.pe_c (c_law_added T) hr (by decide) (by rfl) (pa_cons (C8.pe_c (c_law_less T) hr (by decide) (by rfl) (pa_cons (pv 0) (pa_cons (pv 3) pa_nil))) (pa_cons (C8.pe_c (c_law_added T) hr (by decide) (by rfl) (pa_cons (pv 2) (pa_cons (pv 4) pa_nil))) pa_nil)))))
    pss_nil)
    (pss_cons (ps_if (PW.pt (pw_or (pt_not (pt_val (C8.pe_c (c_law_below T) hr (by decide) (by rfl) (pa_cons (pv 2) (pa_cons (pv 0) pa_nil))))) (pw_or1 (pt_not (pt_val (C8.pe_c (c_law_below T) hr (by decide) (by rfl) (pa_cons (pv 0) (pa_cons (pv 3) pa_nil))))))))
    (pss_one (ps_ret pe_non))
    pss_nil)
    (pss_one (ps_ret (pe_ifExp (pt_cmpR op_eq (pv 1) pe_str (nomark _)) (pv 2) (C8.pe_c (c_law_added T) hr (by decide) (by rfl) (pa_cons (pv 2) (pa_cons (pv 4) pa_nil))))))))), ?_⟩
    try dsimp only
    refine if_dec (le4 pl st && !decide (pl = st)) (fun R q' => ⟨_, rfl, _, rfl, aP, aS, pl, st, rfl, W.p, W.s, by omega, by omega, fun H' s => ⟨_, rfl, ?_⟩⟩) (fun b H6 s6 => ?_) fun b H6 s6 => ?_
    · by_cases z : le4 pl st = true
      · have h : (zle pl st).all id = true := z
        rw [h]
        have W := W.same s
        refine iteT ⟨_, rfl, _, rfl, dI pl, dI st, dp_ints W.p, dp_ints W.s, shaped_dI _, shaped_dI _, _, rfl, ?_⟩
        rw [eqv_dI]
        rw [z, Bool.true_and] at q'
        exact q' H' s
      · have h : ¬ (zle pl st).all id = true := z
        rw [Bool.not_eq_true] at h z
        rw [h]
        rw [z] at q'
        exact iteF (q' H' s)
    · rw [Bool.and_eq_true, Bool.not_eq_true', decide_eq_false_iff_not] at b
      refine ⟨_, rfl, q _ H6 s6 ?_⟩
      rw [movedL, if_pos b]
      exact ⟨aP, rfl, (W.same s6).p⟩
    have n1 : ¬ (le4 pl st = true ∧ pl ≠ st) := fun y => by
      rw [y.1, decide_eq_false y.2] at b
      exact absurd b (by decide)
    have W := W.same s6
    have S6 := s6
    clear s6 b
    try dsimp only
    refine if_dec (le4 en pl && !decide (pl = en)) (fun R q' => ⟨_, rfl, _, rfl, aE, aP, en, pl, rfl, W.e, W.p, by omega, by omega, fun H' s => ⟨_, rfl, ?_⟩⟩) (fun b H7 s7 => ?_) fun b H7 s7 => ?_
    · by_cases z : le4 en pl = true
      · have h : (zle en pl).all id = true := z
        rw [h]
        have W := W.same s
        refine iteT ⟨_, rfl, _, rfl, dI pl, dI en, dp_ints W.p, dp_ints W.e, shaped_dI _, shaped_dI _, _, rfl, ?_⟩
        rw [eqv_dI]
        rw [z, Bool.true_and] at q'
        exact q' H' s
      · have h : ¬ (zle en pl).all id = true := z
        rw [Bool.not_eq_true] at h z
        rw [h]
        rw [z] at q'
        exact iteF (q' H' s)
    · rw [Bool.and_eq_true, Bool.not_eq_true', decide_eq_false_iff_not] at b
      have W := W.same s7
      refine ⟨_, rfl, _, rfl, aP, aE, pl, en, rfl, W.p, W.e, by omega, by omega, fun p H8 s8 t8 => ?_⟩
      have W := W.same s8
      refine ⟨_, rfl, _, rfl, aS, aL, st, ln, rfl, W.s, W.l, by omega, by omega, fun p2 H9 s9 t9 => ?_⟩
      refine ⟨p, p2, zsub pl en, zadd st ln, rfl, t8.same s9, t9, by rw [zsub_len (by omega)]; omega, by rw [zsub_len (by omega), zadd_len (by omega)]; omega, fun p3 H10 s10 t10 => ?_⟩
      refine q _ H10 ((((S6.trans s7).trans s8).trans s9).trans s10) ?_
      rw [movedL, if_neg n1, if_pos ⟨b.1, fun y => b.2 y.symm⟩]
      exact ⟨p3, rfl, t10⟩
    have n2 : ¬ (le4 en pl = true ∧ en ≠ pl) := fun y => by
      rw [y.1, decide_eq_false (fun z => y.2 z.symm)] at b
      exact absurd b (by decide)
    have W := W.same s7
    have S7 := S6.trans s7
    clear s7 S6 b
    try dsimp only
    refine if_dec (!(le4 st pl && le4 pl en)) (fun R q' => ⟨_, rfl, _, rfl, aS, aP, st, pl, rfl, W.s, W.p, by omega, by omega, fun H' s => ⟨_, rfl, ?_⟩⟩) (fun b H8 s8 => ?_) fun b H8 s8 => ?_
    · by_cases z : le4 st pl = true
      · have h : (zle st pl).all id = true := z
        rw [h]
        have W := W.same s
        rw [z, Bool.true_and] at q'
        exact iteF ⟨_, rfl, _, rfl, aP, aE, pl, en, rfl, W.p, W.e, by omega, by omega, fun H'' s' => ⟨_, rfl, q' H'' (s.trans s')⟩⟩
      · have h : ¬ (zle st pl).all id = true := z
        rw [Bool.not_eq_true] at h z
        rw [h]
        rw [z] at q'
        exact iteT (q' H' s)
    · refine q _ H8 (S7.trans s8) ?_
      rw [movedL, if_neg n1, if_neg n2, if_neg (fun y => by rw [y.1, y.2] at b; exact absurd b (by decide))]
      exact rfl
    have c3 : le4 st pl = true ∧ le4 pl en = true := by
      rw [Bool.not_eq_false', Bool.and_eq_true] at b
      exact b
    have W := W.same s8
    refine ⟨_, rfl, rfl, _, rfl, ?_⟩
    rw [side_eq]
    cases left with
    | true =>
      refine iteT ⟨_, rfl, q _ H8 (S7.trans s8) ?_⟩
      rw [movedL, if_neg n1, if_neg n2, if_pos c3]
      exact ⟨aS, rfl, W.s⟩
    | false =>
      refine iteF ⟨_, rfl, _, rfl, aS, aL, st, ln, rfl, W.s, W.l, by omega, by omega, fun p2 H9 s9 t9 => ?_⟩
      refine q _ H9 ((S7.trans s8).trans s9) ?_
      rw [movedL, if_neg n1, if_neg n2, if_pos c3]
      exact ⟨p2, rfl, t9⟩
/-- the form found, and a point -/
def sp_at_point : Sp := fun vs H Q _ => ∃ (m : Nat) (left : Bool) (aF aP aS aE aL aT : Addr) (fd pl st en ln p : List Int), vs = [.ref aF, .ref aP, .str (sideS left), .ref aS, .ref aE, .ref aL, .ref aT] ∧ W4 H m aP aS aE aL pl st en ln ∧ TI H aF fd ∧ LI H aT p ∧ p.length = m ∧
  fd.length = m + 1 ∧ Bd fd ∧ Bd pl ∧ Bd st ∧ Bd en ∧ Bd ln ∧ Bd p ∧ Stands left (valL pl p) (valL st p) (valL en p) (valL ln p) (valL fd p) ∧ ∀ H', Same H H' → Q (.bl true) H'
theorem c_law_at_point (T : Txt K mg) : C8.Cal P w K mg base 2 "_law_at_point" sp_at_point [] := by
  refine calF T.d_law_at_point sc_law_at_point (fun vs H Q E h => ?_) (fun f cdv A outer s H vs Q E hr h => ?_)
  · obtain ⟨_, _, _, _, _, _, _, _, _, _, _, _, _, _, rfl, _⟩ := h; rfl
  · obtain ⟨m, left, aF, aP, aS, aE, aL, aT, fd, pl, st, en, ln, p, rfl, W, tF, tT, lT, lF, bF, bP, bS, bE, bL, bT, hst, q⟩ := h
    have m3 := W.m3
    have lp := W.lp
    have ls := W.ls
    have le := W.le
    have ll := W.ll
    refine ⟨_, (pss_cons (ps_par (i := 7) (j := 8) (by rfl) sc_law_at_point.nd rfl rfl (by decide) rfl rfl (pa_cons (C8.pe_c (c_law_value T) hr (by decide) (by rfl) (pa_cons (pv 0) (pa_cons (pv 6) pa_nil))) (pa_cons (C8.pe_c (c_law_value T) hr (by decide) (by rfl) (pa_cons (pv 1) (pa_cons (pv 6) pa_nil))) pa_nil)) (by rfl))
    (pss_cons (ps_par3 (i := 9) (j := 10) (l := 11) (by rfl) sc_law_at_point.nd rfl rfl rfl (by decide) (by decide) (by decide) rfl rfl rfl (pa_cons (C8.pe_c (c_law_value T) hr (by decide) (by rfl) (pa_cons (pv 3) (pa_cons (pv 6) pa_nil))) (pa_cons (C8.pe_c (c_law_value T) hr (by decide) (by rfl) (pa_cons (pv 4) (pa_cons (pv 6) pa_nil))) (pa_cons (C8.pe_c (c_law_value T) hr (by decide) (by rfl) (pa_cons (pv 5) (pa_cons (pv 6) pa_nil))) pa_nil))) (by rfl))
    (pss_cons (ps_if (pt_cmpR op_lt (pv 8) (pv 9) (nomark _))
    (pss_one (ps_ret (pe_cmpR op_eq (pv 7) (pv 8) (nomark _))))
    pss_nil)
    (pss_cons (ps_if (pt_cmpR op_gt (pv 8) (pv 10) (nomark _))
    (pss_one (ps_ret (pe_cmpR op_eq (pv 7) (pe_op op_add (pe_op op_add (pe_op op_sub (pv 8) (pv 10)) (pv 9)) (pv 11)) (nomark _))))
    pss_nil)
    (pss_cons (ps_if (pt_chain op_lt op_lt (pv 9) (pv 8) (pv 10))
    (pss_one (ps_ret (pe_cmpR op_eq (pv 7) (pe_ifExp (pt_cmpR op_eq (pv 2) pe_str (nomark _)) (pv 9) (pe_op op_add (pv 9) (pv 11))) (nomark _))))
    pss_nil)
    (pss_one (ps_ret (pe_cmpR op_in_seq (pv 7) (pe_lst (pa_cons (pv 9) (pa_cons (pe_op op_add (pv 9) (pv 11)) pa_nil))) (by rfl))))))))), ?_⟩
    refine ⟨_, rfl, _, rfl, aF, aT, fd, p, rfl, tF, tT, by omega, by omega, by omega, bF, bT, fun H1 s1 => ?_⟩
    have W := W.same s1
    have tT := tT.same s1
    refine ⟨_, rfl, _, rfl, aP, aT, pl, p, rfl, W.p, tT, by omega, by omega, by omega, bP, bT, fun H2 s2 => ⟨_, _, rfl, ?_⟩⟩
    have W := W.same s2
    have tT := tT.same s2
    refine ⟨_, rfl, _, rfl, aS, aT, st, p, rfl, W.s, tT, by omega, by omega, by omega, bS, bT, fun H3 s3 => ?_⟩
    have W := W.same s3
    have tT := tT.same s3
    refine ⟨_, rfl, _, rfl, aE, aT, en, p, rfl, W.e, tT, by omega, by omega, by omega, bE, bT, fun H4 s4 => ?_⟩
    have W := W.same s4
    have tT := tT.same s4
    refine ⟨_, rfl, _, rfl, aL, aT, ln, p, rfl, W.l, tT, by omega, by omega, by omega, bL, bT, fun H6 s5 => ⟨_, _, _, rfl, ?_⟩⟩
    have S6 := (((s1.trans s2).trans s3).trans s4).trans s5
    generalize valL pl p = sp at hst ⊢
    generalize valL st p = lo at hst ⊢
    generalize valL en p = hi at hst ⊢
    generalize valL ln p = mo at hst ⊢
    generalize valL fd p = fv at hst ⊢
    obtain ⟨lh, c1, c2, c3, c4⟩ := hst
    refine ⟨_, rfl, _, rfl, sp, lo, rfl, rfl, _, rfl, ite2 (fun e => ?_) (fun e => ?_)⟩
    · have e := of_decide_eq_true e
      refine ⟨_, rfl, _, rfl, rfl, ?_⟩
      rw [c1 e, decide_eq_true rfl]
      exact q _ S6
    have e1 : ¬ sp < lo := fun y => e (decide_eq_true y)
    refine ⟨_, rfl, _, rfl, sp, hi, rfl, rfl, _, rfl, ite2 (fun e => ?_) (fun e => ?_)⟩
    · have e := of_decide_eq_true e
      refine ⟨_, rfl, _, rfl, _, rfl, _, _, rfl, rfl, _, rfl, _, _, rfl, rfl, _, rfl, _, _, rfl, rfl, rfl, ?_⟩
      rw [c2 e, decide_eq_true rfl]
      exact q _ S6
    have e2 : ¬ sp > hi := fun y => e (decide_eq_true y)
    have tail : ∀ (H7 : Hp), Same H H7 → inV (.int fv) [.int lo, .int (lo + mo)] = true → Q (.bl (inV (.int fv) [.int lo, .int (lo + mo)])) H7 := fun H7 s7 e => by
      rw [e]
      exact q _ s7
    have hin : inV (.int fv) [.int lo, .int (lo + mo)] = true := by
      rcases c4 (by omega) (by omega) with e | e
      · rw [e]
        show (decide _ || _) = true
        simp
      · rw [e]
        show (decide _ || (decide _ || false)) = true
        simp
    refine ⟨_, rfl, _, rfl, lo, sp, rfl, rfl, _, rfl, ite2 (fun e => ?_) (fun e => ?_)⟩
    · have e := of_decide_eq_true e
      refine ⟨_, rfl, sp, hi, rfl, rfl, _, rfl, ite2 (fun e' => ?_) (fun e' => ?_)⟩
      · have e' := of_decide_eq_true e'
        have c := c3 e e'
        refine ⟨_, rfl, _, rfl, rfl, _, rfl, ?_⟩
        rw [side_eq]
        cases left with
        | true =>
          refine iteT ⟨_, rfl, rfl, ?_⟩
          rw [c, if_pos rfl, decide_eq_true rfl]
          exact q _ S6
        | false =>
          refine iteF ⟨_, rfl, _, rfl, _, _, rfl, rfl, rfl, ?_⟩
          rw [c, if_neg Bool.false_ne_true, decide_eq_true rfl]
          exact q _ S6
      · exact ⟨_, rfl, _, rfl, _, rfl, _, rfl, _, _, rfl, rfl, by show 2 ≤ sizeLine; decide, fun L nL => ⟨L, _, rfl, .inl (.inl (.inl upd_same)), rfl, rfl, tail _ (S6.trans (sameNew nL)) hin⟩⟩
    · exact ⟨_, rfl, iteF ⟨_, rfl, _, rfl, _, rfl, _, rfl, _, _, rfl, rfl, by show 2 ≤ sizeLine; decide, fun L nL => ⟨L, _, rfl, .inl (.inl (.inl upd_same)), rfl, rfl, tail _ (S6.trans (sameNew nL)) hin⟩⟩⟩
end
end K76

set_option Elab.async false
set_option linter.all false
set_option maxRecDepth 100000
set_option maxHeartbeats 8000000
namespace K76
open PySem PySem.Spec PyProof.Rows L2 CK
def dO : Option (List Int) → PyData
  | none => .none
  | some f => dI f
theorem told_dp {K : PySem.W.Frag} {H : Hp} {o : Option (List Int)} {v : V} (h : Told H o v) : Dp K H v (dO o) := by
  cases o with
  | none =>
    have h : v = .non := h
    rw [h]
    exact .non
  | some f =>
    obtain ⟨p, rfl, t⟩ := h
    exact dp_ints t
theorem show_dO {o : Option (List Int)} (h : ∀ f, o = some f → f.length ≤ 100 ∧ ∀ n ∈ f, n.natAbs.log2 < 1920) : (dO o).showable = true ∧ (dO o).hasDict = false ∧ (dO o).depth ≤ 60 ∧ (dO o).shown.length ≤ sizeLine := by
  cases o with
  | none => decide +kernel
  | some f => exact show_dI (h f rfl).2 (h f rfl).1
theorem le_add {f g : List Int} {B : Int} (hl : f.length = g.length) (hg : In0 B g) : le4 f (zadd f g) = true := by
  induction f generalizing g with
  | nil => rfl
  | cons a f ih =>
    match g, hl with
    | b :: g, hl =>
      have h1 := hg b List.mem_cons_self
      have h2 := ih (g := g) (by simpa using hl) fun y hy => hg y (List.mem_cons_of_mem _ hy)
      show (decide (a ≤ a + b) && _) = true
      rw [decide_eq_true (by omega), Bool.true_and]
      exact h2
theorem in0_sub : ∀ {f g : List Int} {B C : Int}, In0 B f → In0 C g → f.length = g.length → le4 g f = true → In0 B (zsub f g)
  | [], _, _, _, _, _, _, _ => fun x hx => by simp [zsub] at hx
  | _ :: _, [], _, _, _, _, h, _ => by simp at h
  | a :: f, b :: g, B, C, hf, hg, hl, hz => fun x hx => by
    have hz : (decide (b ≤ a) && (zle g f).all id) = true := hz
    rw [Bool.and_eq_true, decide_eq_true_eq] at hz
    have e : zsub (a :: f) (b :: g) = (a - b) :: zsub f g := rfl
    rw [e] at hx
    rcases List.mem_cons.mp hx with rfl | hx
    · have h1 := hf a List.mem_cons_self
      have h2 := hg b List.mem_cons_self
      omega
    · exact in0_sub (fun y hy => hf y (List.mem_cons_of_mem _ hy)) (fun y hy => hg y (List.mem_cons_of_mem _ hy)) (by simpa using hl) hz.2 x hx
theorem moved_in0 {left : Bool} {m : Nat} {pl st en ln fd : List Int} {A B C D : Int} (lp : pl.length = m + 1) (ls : st.length = m + 1) (le : en.length = m + 1) (ll : ln.length = m + 1)
    (hp : In0 A pl) (hs : In0 B st) (he : In0 C en) (hl : In0 D ln) (a0 : 0 ≤ A) (b0 : 0 ≤ B) (d0 : 0 ≤ D) (h : movedL left pl st en ln = some fd) : In0 (A + B + D) fd := by
  unfold movedL at h
  by_cases c1 : le4 pl st = true ∧ pl ≠ st
  · rw [if_pos c1] at h
    cases h
    exact hp.up (by omega)
  rw [if_neg c1] at h
  by_cases c2 : le4 en pl = true ∧ en ≠ pl
  · rw [if_pos c2] at h
    cases h
    exact (in0_add (in0_sub hp he (by omega) c2.1) (in0_add hs hl)).up (by omega)
  rw [if_neg c2] at h
  by_cases c3 : le4 st pl = true ∧ le4 pl en = true
  · rw [if_pos c3] at h
    cases h
    cases left with
    | true => exact hs.up (by omega)
    | false => exact (in0_add hs hl).up (by omega)
  rw [if_neg c3] at h
  cases h
theorem In0.bd' {B : Int} {f : List Int} (h : In0 B f) (hB : B < 2 ^ 900) : Bd f := fun x hx => by
  have h1 := h x hx
  exact Nat.lt_of_lt_of_le (ab h1.1 (Int.lt_of_le_of_lt h1.2 hB)) (Nat.pow_le_pow_right (by decide) (by decide))
theorem W4.sameX {g : Addr} {H H' : Hp} {n m : Nat} {aP aS aE aL : Addr} {pl st en ln : List Int} (W : W4 H m aP aS aE aL pl st en ln) (G : Gn n H g) (s : SameX g H H') : W4 H' m aP aS aE aL pl st en ln :=
  ⟨s.tup G W.p, s.tup G W.s, s.tup G W.e, s.tup G W.l, W.lp, W.ls, W.le, W.ll, W.m3⟩
section
variable {P : Program} {w : World} {K : PySem.W.Frag} {mg : Str → Option Value} {base : Heap}
def sp_law_right : Sp := fun vs H Q _ => ∃ g : Addr, vs = [.ref g] ∧ Gn 1000 H g ∧ ∀ H', SameX g H H' → Q (.bl true) H'
theorem c_law_right (T : Txt K mg) : CalG P w K mg base 7 "_law_right" sp_law_right := by
  refine calG T.d_law_right sc_law_right (fun vs H Q E h => ?_) (fun f cdv A outer s H vs Q E hr gd0 h => ?_)
  · obtain ⟨_, rfl, _⟩ := h; rfl
  · obtain ⟨g, rfl, G, q⟩ := h
    have gd : (A.deeper (envOfC "_law_right" (C8.fnScope (topS 39)) s.heap.objs.size f cdv)).guards = some [] := gd0
    refine ⟨_, (pss_cons (ps_par (i := 1) (j := 2) (by rfl) sc_law_right.nd rfl rfl (by decide) rfl rfl (pa_cons (C8.pe_c (c_law_random T) hr (by decide) (by rfl) (pa_cons (pv 0) (pa_cons pe_int pa_nil))) (pa_cons (pe_ix ix_list (pe_lst (pa_cons pe_int (pa_cons pe_int (pa_cons pe_int (pa_cons (pe_op op_powB pe_int pe_int) (pa_cons (pe_op op_powB pe_int pe_int) pa_nil)))))) (C8.pe_c (c_law_random T) hr (by decide) (by rfl) (pa_cons (pv 0) (pa_cons pe_int pa_nil))) (fun _ _ => rfl)) pa_nil)) (by rfl))
    (pss_cons (ps_par (i := 3) (j := 4) (by rfl) sc_law_right.nd rfl rfl (by decide) rfl rfl (pa_cons (C8.pe_c (c_law_form T) hr (by decide) (by rfl) (pa_cons (pv 0) (pa_cons (pv 1) (pa_cons (pv 2) pa_nil)))) (pa_cons (C8.pe_c (c_law_form T) hr (by decide) (by rfl) (pa_cons (pv 0) (pa_cons (pv 1) (pa_cons (pv 2) pa_nil)))) pa_nil)) (by rfl))
    (pss_cons (ps_set (i := 5) sc_law_right.nd rfl (Or.inl rfl) (C8.pe_c (c_law_form T) hr (by decide) (by rfl) (pa_cons (pv 0) (pa_cons (pv 1) (pa_cons (pe_op op_mulW (pv 2) (C8.pe_c (c_law_random T) hr (by decide) (by rfl) (pa_cons (pv 0) (pa_cons pe_int pa_nil)))) pa_nil)))))
    (pss_cons (ps_par (i := 6) (j := 7) (by rfl) sc_law_right.nd rfl rfl (by decide) rfl rfl (pa_cons (C8.pe_c (c_law_spot T) hr (by decide) (by rfl) (pa_cons (pv 0) (pa_cons (pv 1) (pa_cons (pv 2) (pa_cons (pv 3) (pa_cons (pv 5) pa_nil)))))) (pa_cons (C8.pe_c (c_law_added T) hr (by decide) (by rfl) (pa_cons (pv 3) (pa_cons (pv 5) pa_nil))) pa_nil)) (by rfl))
    (pss_cons (ps_set (i := 8) sc_law_right.nd rfl (Or.inl rfl) (pe_op op_cat (C8.pe_c (c_law_spots T) hr (by decide) (by rfl) (pa_cons (pv 0) (pa_cons (pv 1) pa_nil))) (pe_lst (pa_cons (C8.pe_c (c_law_point T) hr (by decide) (by rfl) (pa_cons (pv 0) (pa_cons (pv 1) (pa_cons (pe_op op_powB pe_int pe_int) pa_nil)))) pa_nil))))
    (pss_cons (ps_for PassesOwn.never rfl (pi_list (pe_lst (pa_cons pe_str (pa_cons pe_str pa_nil)))) (pg_name (i := 9) sc_law_right.nd rfl (Or.inl rfl))
    (pss_cons (ps_set (i := 10) sc_law_right.nd rfl (Or.inl rfl) (C8.pe_c (c_mark_moved T) hr (by decide) (by rfl) (pa_cons (pv 1) (pa_cons (pv 6) (pa_cons (pv 9) (pa_cons (pv 3) (pa_cons (pv 7) (pa_cons (pv 4) pa_nil))))))))
    (pss_cons (ps_if (pt_cmpR op_ne (pe_callB (call_repr hr gd) (by rfl) T.m_repr (by decide +kernel) (pa_cons (pv 10) pa_nil)) (pe_callB (call_repr hr gd) (by rfl) T.m_repr (by decide +kernel) (pa_cons (C8.pe_c (c_law_due T) hr (by decide) (by rfl) (pa_cons (pv 6) (pa_cons (pv 9) (pa_cons (pv 3) (pa_cons (pv 7) (pa_cons (pv 4) pa_nil)))))) pa_nil)) (nomark _))
    (pss_one (ps_ret pe_bl))
    pss_nil)
    (pss_one (ps_if (pt_cmpR op_notN (pv 10) pe_non (nomark _))
    (pss_one (ps_for PassesOwn.never rfl (pi_list (pv 8)) (pg_name (i := 11) sc_law_right.nd rfl (Or.inl rfl))
    (pss_one (ps_if (pt_not (pt_val (C8.pe_c (c_law_at_point T) hr (by decide) (by rfl) (pa_cons (pv 10) (pa_cons (pv 6) (pa_cons (pv 9) (pa_cons (pv 3) (pa_cons (pv 7) (pa_cons (pv 4) (pa_cons (pv 11) pa_nil))))))))))
    (pss_one (ps_ret pe_bl))
    pss_nil))))
    pss_nil)))))
    (pss_one (ps_ret pe_bl)))))))), ?_⟩
    -- many, most
    refine ⟨_, rfl, g, 4, 999, rfl, G, by decide, by decide, fun mz H1 s1 G1 m0 m1 => ?_⟩
    obtain ⟨m, rfl⟩ : ∃ m : Nat, mz = m := ⟨mz.toNat, by omega⟩
    refine ⟨_, _, rfl, rfl, ⟨by decide, by decide⟩, _, _, rfl, rfl, ⟨by decide, by decide⟩, by show 5 ≤ sizeLine; decide, fun L nL => ?_⟩
    refine ⟨_, rfl, g, 5, 998, rfl, G1.upd (G1.ne nL), by decide, by decide, fun r H2 s2 G2 r0 r1 => ?_⟩
    have hL := s2 L _ (G1.ne nL) upd_same
    obtain ⟨most, hv, B0, B1⟩ : ∃ most : Int, atI [V.int 1, V.int 2, V.int 9, V.int (10 ^ Int.toNat 6), V.int (10 ^ Int.toNat 20)] r = some (.int most) ∧ 1 ≤ most ∧ most ≤ 10 ^ 20 := by
      have : r = 0 ∨ r = 1 ∨ r = 2 ∨ r = 3 ∨ r = 4 := by omega
      rcases this with rfl | rfl | rfl | rfl | rfl
      · exact ⟨1, rfl, by decide, by decide⟩
      · exact ⟨2, rfl, by decide, by decide⟩
      · exact ⟨9, rfl, by decide, by decide⟩
      · exact ⟨10 ^ 6, rfl, by decide, by decide⟩
      · exact ⟨10 ^ 20, rfl, by decide, by decide⟩
    refine ⟨L, _, r, .int most, rfl, rfl, .inl (.inl hL), hv, ⟨_, _, rfl, ?_⟩⟩
    have S2 : SameX g H H2 := (s1.trans (sameX_new nL)).trans s2
    have m3 : m ≤ 3 := by omega
    clear s1 s2 hL hv nL G1 G r0 r1
    -- start, length, stretch
    refine ⟨_, rfl, _, rfl, _, rfl, g, m, 990, most, rfl, G2.le (by omega), m3, by omega, by omega, fun aS st H3 s3 G3 tS lS bS => ?_⟩
    refine ⟨_, rfl, _, rfl, _, rfl, g, m, 980, most, rfl, G3.le (by omega), m3, by omega, by omega, fun aL ln H4 s4 G4 tL lL bL => ⟨_, _, rfl, ?_⟩⟩
    refine ⟨_, rfl, _, rfl, _, rfl, _, rfl, g, 2, 979, rfl, G4, by decide, by decide, fun r2 H5 s5 G5 r20 r21 => ?_⟩
    have mb : most.natAbs < 2 ^ 100 := ab (by omega) (by omega)
    refine ⟨most, r2, rfl, rfl, wide_mul mb (show r2.natAbs < 2 ^ 100 from ab r20 (by omega)) (by decide) (by decide) (by decide), ?_⟩
    have hr2 : r2 = 0 ∨ r2 = 1 := by omega
    have mr : 0 ≤ most * r2 ∧ most * r2 ≤ most := by
      rcases hr2 with e | e <;> rw [e] <;> omega
    refine ⟨g, m, 970, most * r2, rfl, G5.le (by omega), m3, mr.1, by omega, fun aT sr H6 s6 G6 tT lT bT => ?_⟩
    replace bT := bT.up mr.2
    have tS := (s4.trans (s5.trans s6)).tup G3 tS
    have tL := (s5.trans s6).tup G4 tL
    have S6 := (((S2.trans s3).trans s4).trans s5).trans s6
    clear s3 s4 s5 s6 G3 G4 G5 S2 G2 r2 r20 r21 hr2 mr
    -- place, end
    refine ⟨_, rfl, _, rfl, _, rfl, _, rfl, _, rfl, g, aS, aT, m, 940, most, st, sr, rfl, tS, tT, lS, lT, m3, B0, by omega, bS, bT, G6.le (by omega), fun aP pl H7 s7 G7 tP lP bP => ?_⟩
    have tS := s7.tup G6 tS
    have tT := s7.tup G6 tT
    have tL := s7.tup G6 tL
    refine ⟨_, rfl, _, rfl, aS, aT, st, sr, rfl, tS, tT, by omega, by omega, fun aE H8 s8 tE => ⟨_, _, rfl, ?_⟩⟩
    have lE : (zadd st sr).length = m + 1 := by rw [zadd_len (by omega)]; exact lS
    have bE := in0_add bS bT
    have hse : le4 st (zadd st sr) = true := le_add (by omega) bT
    have W : W4 H8 m aP aS aE aL pl st (zadd st sr) ln := ⟨s8 _ _ tP, s8 _ _ tS, tE, s8 _ _ tL, lP, lS, lE, lL, m3⟩
    have S8 := (S6.trans s7).trans (.of s8)
    have G8 := G7.same s8
    clear s7 s8 tP tS tL tT tE G6 G7 S6
    generalize zadd st sr = en at W lE bE hse
    -- points
    refine ⟨_, rfl, _, rfl, g, m, 900, rfl, m3, G8.le (by omega), fun Lp ps pts H9 s9 G9 nLp F bF lF => ?_⟩
    refine ⟨_, rfl, _, rfl, _, _, rfl, rfl, ⟨by decide, by decide⟩, g, m, 890, 10 ^ Int.toNat 9, rfl, G9.le (by omega), m3, by decide, by decide, fun pp pt H10 s10 G10 npp hpp lpp bpp => ?_⟩
    refine ⟨by show 1 ≤ sizeLine; decide, fun L1 nL1 => ?_⟩
    have F10 := F.sameX s10
    have sL1 := sameNew (o := .lst [V.ref pp]) nL1
    refine ⟨Lp, L1, _, _, rfl, rfl, sL1 _ _ F10.at_, upd_same, by rw [List.length_map, F.len, lF]; show 4 + 1 ≤ sizeLine; decide, fun LP nLP => ?_⟩
    have sLP := sameNew (o := .lst (ps.map V.ref ++ [V.ref pp])) nLP
    have W11 := (((W.sameX G8 s9).sameX G9 s10).same sL1).same sLP
    have S11 := (((S8.trans s9).trans s10).trans (.of sL1)).trans (.of sLP)
    have hLP : (upd (upd H10 L1 (.lst [V.ref pp])) LP (.lst (ps.map V.ref ++ [V.ref pp]))) LP = some (.lst ((ps ++ [pp]).map V.ref)) := by
      rw [upd_same, List.map_append]
      rfl
    have hpt : ∀ (i : Nat) (p : Addr), (ps ++ [pp])[i]? = some p → ∃ pt, LI (upd (upd H10 L1 (.lst [V.ref pp])) LP (.lst (ps.map V.ref ++ [V.ref pp]))) p pt ∧ pt.length = m ∧ In0 (10 ^ 9) pt := fun i p a => by
      by_cases hi : i < ps.length
      · rw [List.getElem?_append_left hi] at a
        have hi2 : i < pts.length := by rw [← F.len]; exact hi
        have b := List.getElem?_eq_getElem hi2
        have mem := List.getElem_mem hi2
        exact ⟨pts[i], sLP _ _ (sL1 _ _ (F10.get i p _ a b)), (bF _ mem).1, (bF _ mem).2.up (by decide)⟩
      · rw [List.getElem?_append_right (by omega)] at a
        by_cases z : i - ps.length = 0
        · rw [z] at a
          cases a
          exact ⟨pt, sLP _ _ (sL1 _ _ hpp), lpp, bpp.up (by decide)⟩
        · rw [List.getElem?_eq_none (by simp; omega)] at a
          cases a
    have lLP : (ps ++ [pp]).length = 5 := by rw [List.length_append, F.len, lF]; rfl
    generalize upd (upd H10 L1 (.lst [V.ref pp])) LP (.lst (ps.map V.ref ++ [V.ref pp])) = H11 at W11 S11 hLP hpt
    generalize ps ++ [pp] = qs at hLP hpt lLP
    clear sL1 sLP nLP nL1 F10 F s9 s10 G8 G9 W S8 npp hpp lpp bpp nLp bF lF
    -- the sides
    have nP := Nn.of bP
    have nS := Nn.of bS
    have nE := Nn.of bE
    have nL := Nn.of bL
    have bdP : Bd pl := bP.bd' (by omega)
    have bdS : Bd st := bS.bd' (by omega)
    have bdE : Bd en := bE.bd' (by omega)
    have bdL : Bd ln := bL.bd' (by omega)
    refine ⟨by show 2 ≤ sizeLine; decide, fun LS nLS => ⟨LS, rfl, ⟨_, .inl (.inl upd_same)⟩, ?_⟩⟩
    have sLS := sameNew (o := .lst [V.str "left", V.str "right"]) nLS
    refine for_list (K := K) (a := LS) (xs := [V.str "left", V.str "right"]) (fun i σ H' => Same (upd H11 LS (.lst [V.str "left", V.str "right"])) H' ∧ ∃ y9 y10 y11, σ = [some (.ref g), some (.int m), some (.int most), some (.ref aS), some (.ref aL), some (.ref aT), some (.ref aP), some (.ref aE), some (.ref LP), y9, y10, y11])
      ⟨.refl _, none, none, none, rfl⟩ (fun i σ H' _ p => .inl (.inl (p.1 _ _ upd_same))) (fun i y σ H' hi p => ?_) (fun σ H' p => ?_)
    · obtain ⟨s0, y9, y10, y11, rfl⟩ := p
      obtain ⟨left, rfl⟩ : ∃ left, y = V.str (sideS left) := by
        match i, hi with
        | 0, hi => exact ⟨true, (Option.some.inj hi).symm⟩
        | 1, hi => exact ⟨false, (Option.some.inj hi).symm⟩
      have W := (W11.same sLS).same s0
      refine ⟨_, rfl, _, rfl, _, rfl, _, rfl, _, rfl, _, rfl, m, left, aP, aS, aE, aL, pl, st, en, ln, rfl, W, nP, nS, nE, nL, hse, fun v H12 s12 tv => ?_⟩
      have W := W.same s12
      have bdF : ∀ f, movedL left pl st en ln = some f → Bd f ∧ f.length ≤ 100 ∧ ∀ n ∈ f, n.natAbs.log2 < 1920 := fun f e => by
        have b := moved_in0 lP lS lE lL bP bS bE bL (by omega) (by omega) (by omega) e
        have l := (stands_of (p := []) lP lS lE lL hse (fun x hx => absurd hx List.not_mem_nil) e).2
        refine ⟨b.bd' (by omega), by omega, fun n hn => log_lt ?_⟩
        have := (b.bd' (by omega)) n hn
        exact Nat.lt_of_lt_of_le this (Nat.pow_le_pow_right (by decide) (by decide))
      have sh := show_dO (o := movedL left pl st en ln) fun f e => (bdF f e).2
      try dsimp only
      refine if_not (fun R q' => ?_) fun H13 s13 => ?_
      · refine ⟨_, rfl, v, dO (movedL left pl st en ln), rfl, told_dp tv, sh.1, sh.2.1, sh.2.2.1, sh.2.2.2, ?_⟩
        refine ⟨_, rfl, _, rfl, _, rfl, _, rfl, _, rfl, m, left, aP, aS, aE, aL, pl, st, en, ln, rfl, W, fun u H13 s13 tu => ?_⟩
        refine ⟨u, _, rfl, told_dp tu, sh.1, sh.2.1, sh.2.2.1, sh.2.2.2, rfl, _, rfl, ?_⟩
        rw [decide_eq_true rfl]
        exact q' H13 s13
      have W := W.same s13
      have tv := tv.same s13
      have S13 := (s0.trans s12).trans s13
      refine ⟨_, rfl, rfl, _, rfl, ?_⟩
      cases eo : movedL left pl st en ln with
      | none =>
        rw [eo] at tv
        have tv : v = .non := tv
        subst tv
        exact iteF ⟨S13, _, _, _, rfl⟩
      | some fd =>
        rw [eo] at tv
        obtain ⟨aF, rfl, tF⟩ := tv
        refine iteT ?_
        have hLP13 := S13 _ _ (sLS _ _ hLP)
        refine ⟨_, rfl, LP, rfl, ⟨_, .inl (.inl hLP13)⟩, ?_⟩
        refine for_list (K := K) (a := LP) (xs := qs.map V.ref) (fun i σ H' => Same H13 H' ∧ ∃ y11, σ = [some (.ref g), some (.int m), some (.int most), some (.ref aS), some (.ref aL), some (.ref aT), some (.ref aP), some (.ref aE), some (.ref LP), some (.str (sideS left)), some (.ref aF), y11])
          ⟨.refl _, _, rfl⟩ (fun i σ H' _ p => .inl (.inl (p.1 _ _ hLP13))) (fun j y σ H' hj p => ?_) (fun σ H' p => ?_)
        · obtain ⟨s1, y11, rfl⟩ := p
          obtain ⟨p, hp, rfl⟩ := get_ref hj
          obtain ⟨pt, hpt, lpt, bpt⟩ := hpt j p hp
          have stn := stands_of (p := pt) lP lS lE lL hse (Nn.of bpt) eo
          refine ⟨_, rfl, _, rfl, _, rfl, _, rfl, _, rfl, _, rfl, _, rfl, m, left, aF, aP, aS, aE, aL, p, fd, pl, st, en, ln, pt, rfl, W.same s1, tF.same s1, LI.same hpt (sLS.trans (S13.trans s1)), lpt, stn.2, (bdF fd eo).1, bdP, bdS, bdE, bdL, bpt.bd' (by decide), stn.1, fun H14 s14 => ⟨_, rfl, iteF ⟨s1.trans s14, _, rfl⟩⟩⟩
        · obtain ⟨s1, y11, rfl⟩ := p
          exact ⟨S13.trans s1, _, _, _, rfl⟩
    · obtain ⟨s0, y9, y10, y11, rfl⟩ := p
      exact q _ (S11.trans (.of (sLS.trans s0)))
end
end K76

set_option Elab.async false
set_option linter.all false
set_option maxRecDepth 100000
set_option maxHeartbeats 4000000
namespace K76
open PySem PySem.Spec PyProof.Rows L2 CK
def sp_law (K : PySem.W.Frag) : Sp := fun vs H Q _ => ∃ (a : Addr) (ns : List Int), vs = [.ref a] ∧ SqL K H a (ns.map V.int) ∧ ns.length ≤ 63 ∧ ∀ H', Q (.bl true) H'
theorem law_end {l : PySem.W.OpenLaw} {w : World} {K : PySem.W.Frag} {mg : Str → Option Value} {fa : Addr} (T : Txt K mg) (hfa : mg "law" = some (.ref fa)) :
    ∃ fd : FuncData, (∀ (s : Shared) (v : Value), BindsTo s fd ⟨[v], []⟩ [("_law_script", v)]) ∧ ∀ base : Heap, K.In base → base.Ns mainGlobals mg → FnG l.prog w K mg base 10 fa fd ["_law_script"] (sp_law K) := by
  obtain ⟨f, fd, hm, hb, hF⟩ := T.d_law.oneG
  have e := hfa.symm.trans hm
  cases e
  refine ⟨fd, hb, fun base _ _ => hF sc_law (fun vs H Q E h => ?_) (fun cdv A outer s H vs Q E hr gd0 h => ?_)⟩
  · obtain ⟨_, _, rfl, _⟩ := h; rfl
  · obtain ⟨a, ns, rfl, hS, hl, q⟩ := h
    have gd : (A.deeper (envOfC "law" (C8.fnScope (topS 40)) s.heap.objs.size fa cdv)).guards = some [] := gd0
    refine ⟨_, (pss_cons (ps_for PassesOwn.never rfl (pi_range1 (by rfl) T.m_range (pa_cons pe_int pa_nil)) (pg_name (i := 1) sc_law.nd rfl (Or.inl rfl))
    (pss_one (ps_if (pt_not (pt_val (pe_cG (c_law_right T) hr gd (by decide) (by rfl) (pa_cons (C8.pe_c (c_law_generator T) hr (by decide) (by rfl) (pa_cons (pv 0) (pa_cons (pv 1) pa_nil))) pa_nil))))
    (pss_one (ps_ret pe_bl))
    pss_nil)))
    (pss_one (ps_ret pe_bl))), ?_⟩
    refine ⟨3, rfl, by decide, by decide, ?_⟩
    refine for_it walk_range (fun i σ H' => Same H H' ∧ ∃ y1, σ = [some (.ref a), y1]) ⟨Same.refl _, none, rfl⟩ (fun _ _ _ _ _ => True.intro) (fun i x σ H' H'' hi p y => ?_) fun σ H' p => ?_
    · obtain ⟨s0, y1, rfl⟩ := p
      obtain ⟨rfl, rfl⟩ := y
      have i3 : i < 3 := hi
      refine ⟨_, rfl, _, rfl, a, ns, i, by show [V.ref a, V.int (0 + (i : Int))] = _; rw [Int.zero_add], s0.seq hS, by omega, fun g H1 H2 s1 n1 s2 G2 => ?_⟩
      refine ⟨g, rfl, G2.le (by decide), fun H3 s3 => ⟨_, rfl, iteF ⟨fun b o e => ?_, _, rfl⟩⟩⟩
      have e1 := s1 _ _ (s0 b o e)
      exact s3 b o (fun z => by rw [z, n1] at e1; cases e1) (s2 _ _ e1)
    · exact q H'
end K76

open PySem PySem.W PyProof.Rows
set_option maxHeartbeats 0 in
theorem PySem.Challenge.cw_countscribe_k76_marks_moved_holds : PySem.Challenge.rw_countscribe_k76_marks_moved.Holds := by
  w_on; o_law; k_head; (case hw => w_witness2)
  k_fill
  refine CK.walkG (l := PySem.Challenge.rw_countscribe_k76_marks_moved) (n := 63) (k := 10) (x := "_law_script") (sp := fun w => K76.sp_law _) rfl (by decide) rfl ⟨rfl, by decide, by decide⟩ (fun w h Y => PySem.W.kIn_of Y) ?F (fun _ _ a ns hl _ hS => ⟨a, ns, rfl, hS, hl, fun _ => rfl⟩)
  case F =>
    intro w mg fa h KX G hmg
    refine' CK.with_def KX "is_whole" (K76.topS 8) ["value"] (CK.defF_mk KX G ?a ?l ?c ?k fun _ _ _ _ _ _ us hl => match us, hl with | [_], _ => rfl) fun d_is_whole => ?_
    (case a => k_is); (case l => k_is); (case c => k_is); (case k => k_is)
    refine' CK.with_def KX "is_count" (K76.topS 9) ["value"] (CK.defF_mk KX G ?a ?l ?c ?k fun _ _ _ _ _ _ us hl => match us, hl with | [_], _ => rfl) fun d_is_count => ?_
    (case a => k_is); (case l => k_is); (case c => k_is); (case k => k_is)
    refine' CK.with_def KX "is_within" (K76.topS 10) ["value", "low", "high"] (CK.defF_mk KX G ?a ?l ?c ?k fun _ _ _ _ _ _ us hl => match us, hl with | [_, _, _], _ => rfl) fun d_is_within => ?_
    (case a => k_is); (case l => k_is); (case c => k_is); (case k => k_is)
    refine' CK.with_def KX "need_within" (K76.topS 11) ["value", "low", "high"] (CK.defF_mk KX G ?a ?l ?c ?k fun _ _ _ _ _ _ us hl => match us, hl with | [_, _, _], _ => rfl) fun d_need_within => ?_
    (case a => k_is); (case l => k_is); (case c => k_is); (case k => k_is)
    refine' CK.with_def KX "need_many" (K76.topS 12) ["value"] (CK.defF_mk KX G ?a ?l ?c ?k fun _ _ _ _ _ _ us hl => match us, hl with | [_], _ => rfl) fun d_need_many => ?_
    (case a => k_is); (case l => k_is); (case c => k_is); (case k => k_is)
    refine' CK.with_def KX "is_form_for" (K76.topS 14) ["many", "value"] (CK.defF_mk KX G ?a ?l ?c ?k fun _ _ _ _ _ _ us hl => match us, hl with | [_, _], _ => rfl) fun d_is_form_for => ?_
    (case a => k_is); (case l => k_is); (case c => k_is); (case k => k_is)
    refine' CK.with_def KX "need_form_for" (K76.topS 15) ["many", "value"] (CK.defF_mk KX G ?a ?l ?c ?k fun _ _ _ _ _ _ us hl => match us, hl with | [_, _], _ => rfl) fun d_need_form_for => ?_
    (case a => k_is); (case l => k_is); (case c => k_is); (case k => k_is)
    refine' CK.with_def KX "form_sum" (K76.topS 16) ["one", "other"] (CK.defF_mk KX G ?a ?l ?c ?k fun _ _ _ _ _ _ us hl => match us, hl with | [_, _], _ => rfl) fun d_form_sum => ?_
    (case a => k_is); (case l => k_is); (case c => k_is); (case k => k_is)
    refine' CK.with_def KX "form_difference" (K76.topS 17) ["one", "other"] (CK.defF_mk KX G ?a ?l ?c ?k fun _ _ _ _ _ _ us hl => match us, hl with | [_, _], _ => rfl) fun d_form_difference => ?_
    (case a => k_is); (case l => k_is); (case c => k_is); (case k => k_is)
    refine' CK.with_def KX "at_most" (K76.topS 18) ["one", "other"] (CK.defF_mk KX G ?a ?l ?c ?k fun _ _ _ _ _ _ us hl => match us, hl with | [_, _], _ => rfl) fun d_at_most => ?_
    (case a => k_is); (case l => k_is); (case c => k_is); (case k => k_is)
    refine' CK.with_def KX "need_side" (K76.topS 21) ["value"] (CK.defF_mk KX G ?a ?l ?c ?k fun _ _ _ _ _ _ us hl => match us, hl with | [_], _ => rfl) fun d_need_side => ?_
    (case a => k_is); (case l => k_is); (case c => k_is); (case k => k_is)
    refine' CK.with_def KX "mark_moved" (K76.topS 22) ["many", "place", "side", "start", "end", "length"] (CK.defF_mk KX G ?a ?l ?c ?k fun _ _ _ _ _ _ us hl => match us, hl with | [_, _, _, _, _, _], _ => rfl) fun d_mark_moved => ?_
    (case a => k_is); (case l => k_is); (case c => k_is); (case k => k_is)
    refine' CK.with_def KX "_law_hash" (K76.topS 24) ["_law_seed", "_law_index"] (CK.defF_mk KX G ?a ?l ?c ?k fun _ _ _ _ _ _ us hl => match us, hl with | [_, _], _ => rfl) fun d_law_hash => ?_
    (case a => k_is); (case l => k_is); (case c => k_is); (case k => k_is)
    refine' CK.with_def KX "_law_random" (K76.topS 25) ["_law_generator_here", "_law_bound"] (CK.defF_mk KX G ?a ?l ?c ?k fun _ _ _ _ _ _ us hl => match us, hl with | [_, _], _ => rfl) fun d_law_random => ?_
    (case a => k_is); (case l => k_is); (case c => k_is); (case k => k_is)
    refine' CK.with_def KX "_law_cell" (K76.topS 26) ["_law_script", "_law_index"] (CK.defF_mk KX G ?a ?l ?c ?k fun _ _ _ _ _ _ us hl => match us, hl with | [_, _], _ => rfl) fun d_law_cell => ?_
    (case a => k_is); (case l => k_is); (case c => k_is); (case k => k_is)
    refine' CK.with_def KX "_law_generator" (K76.topS 27) ["_law_script", "_law_index"] (CK.defF_mk KX G ?a ?l ?c ?k fun _ _ _ _ _ _ us hl => match us, hl with | [_, _], _ => rfl) fun d_law_generator => ?_
    (case a => k_is); (case l => k_is); (case c => k_is); (case k => k_is)
    refine' CK.with_def KX "_law_form" (K76.topS 28) ["_law_generator_here", "_law_many", "_law_most"] (CK.defF_mk KX G ?a ?l ?c ?k fun _ _ _ _ _ _ us hl => match us, hl with | [_, _, _], _ => rfl) fun d_law_form => ?_
    (case a => k_is); (case l => k_is); (case c => k_is); (case k => k_is)
    refine' CK.with_def KX "_law_value" (K76.topS 29) ["_law_form_here", "_law_point_here"] (CK.defF_mk KX G ?a ?l ?c ?k fun _ _ _ _ _ _ us hl => match us, hl with | [_, _], _ => rfl) fun d_law_value => ?_
    (case a => k_is); (case l => k_is); (case c => k_is); (case k => k_is)
    refine' CK.with_def KX "_law_point" (K76.topS 30) ["_law_generator_here", "_law_many", "_law_most"] (CK.defF_mk KX G ?a ?l ?c ?k fun _ _ _ _ _ _ us hl => match us, hl with | [_, _, _], _ => rfl) fun d_law_point => ?_
    (case a => k_is); (case l => k_is); (case c => k_is); (case k => k_is)
    refine' CK.with_def KX "_law_added" (K76.topS 31) ["_law_one", "_law_other"] (CK.defF_mk KX G ?a ?l ?c ?k fun _ _ _ _ _ _ us hl => match us, hl with | [_, _], _ => rfl) fun d_law_added => ?_
    (case a => k_is); (case l => k_is); (case c => k_is); (case k => k_is)
    refine' CK.with_def KX "_law_less" (K76.topS 32) ["_law_one", "_law_other"] (CK.defF_mk KX G ?a ?l ?c ?k fun _ _ _ _ _ _ us hl => match us, hl with | [_, _], _ => rfl) fun d_law_less => ?_
    (case a => k_is); (case l => k_is); (case c => k_is); (case k => k_is)
    refine' CK.with_def KX "_law_below" (K76.topS 33) ["_law_one", "_law_other"] (CK.defF_mk KX G ?a ?l ?c ?k fun _ _ _ _ _ _ us hl => match us, hl with | [_, _], _ => rfl) fun d_law_below => ?_
    (case a => k_is); (case l => k_is); (case c => k_is); (case k => k_is)
    refine' CK.with_def KX "_law_spots" (K76.topS 34) ["_law_generator_here", "_law_many"] (CK.defF_mk KX G ?a ?l ?c ?k fun _ _ _ _ _ _ us hl => match us, hl with | [_, _], _ => rfl) fun d_law_spots => ?_
    (case a => k_is); (case l => k_is); (case c => k_is); (case k => k_is)
    refine' CK.with_def KX "_law_part" (K76.topS 35) ["_law_generator_here", "_law_form_here"] (CK.defF_mk KX G ?a ?l ?c ?k fun _ _ _ _ _ _ us hl => match us, hl with | [_, _], _ => rfl) fun d_law_part => ?_
    (case a => k_is); (case l => k_is); (case c => k_is); (case k => k_is)
    refine' CK.with_def KX "_law_spot" (K76.topS 36) ["_law_generator_here", "_law_many", "_law_most", "_law_start", "_law_stretch"] (CK.defF_mk KX G ?a ?l ?c ?k fun _ _ _ _ _ _ us hl => match us, hl with | [_, _, _, _, _], _ => rfl) fun d_law_spot => ?_
    (case a => k_is); (case l => k_is); (case c => k_is); (case k => k_is)
    refine' CK.with_def KX "_law_due" (K76.topS 37) ["_law_place", "_law_side", "_law_start", "_law_end", "_law_length"] (CK.defF_mk KX G ?a ?l ?c ?k fun _ _ _ _ _ _ us hl => match us, hl with | [_, _, _, _, _], _ => rfl) fun d_law_due => ?_
    (case a => k_is); (case l => k_is); (case c => k_is); (case k => k_is)
    refine' CK.with_def KX "_law_at_point" (K76.topS 38) ["_law_found", "_law_place", "_law_side", "_law_start", "_law_end", "_law_length", "_law_point_here"] (CK.defF_mk KX G ?a ?l ?c ?k fun _ _ _ _ _ _ us hl => match us, hl with | [_, _, _, _, _, _, _], _ => rfl) fun d_law_at_point => ?_
    (case a => k_is); (case l => k_is); (case c => k_is); (case k => k_is)
    refine' CK.with_def KX "_law_right" (K76.topS 39) ["_law_generator_here"] (CK.defF_mk KX G ?a ?l ?c ?k fun _ _ _ _ _ _ us hl => match us, hl with | [_], _ => rfl) fun d_law_right => ?_
    (case a => k_is); (case l => k_is); (case c => k_is); (case k => k_is)
    refine' CK.with_def KX "law" (K76.topS 40) ["_law_script"] (CK.defF_mk KX G ?a ?l ?c ?k fun _ _ _ _ _ _ us hl => match us, hl with | [_], _ => rfl) fun d_law => ?_
    (case a => k_is); (case l => k_is); (case c => k_is); (case k => k_is)
    have m_all : mg "all" = none := by
      refine' PySem.W.mg_none_of KX G ?z
      (case z => k_is)
    have m_bool : mg "bool" = none := by
      refine' PySem.W.mg_none_of KX G ?z
      (case z => k_is)
    have m_int : mg "int" = none := by
      refine' PySem.W.mg_none_of KX G ?z
      (case z => k_is)
    have m_isinstance : mg "isinstance" = none := by
      refine' PySem.W.mg_none_of KX G ?z
      (case z => k_is)
    have m_len : mg "len" = none := by
      refine' PySem.W.mg_none_of KX G ?z
      (case z => k_is)
    have m_max : mg "max" = none := by
      refine' PySem.W.mg_none_of KX G ?z
      (case z => k_is)
    have m_range : mg "range" = none := by
      refine' PySem.W.mg_none_of KX G ?z
      (case z => k_is)
    have m_repr : mg "repr" = none := by
      refine' PySem.W.mg_none_of KX G ?z
      (case z => k_is)
    have m_str : mg "str" = none := by
      refine' PySem.W.mg_none_of KX G ?z
      (case z => k_is)
    have m_sum : mg "sum" = none := by
      refine' PySem.W.mg_none_of KX G ?z
      (case z => k_is)
    have m_tuple : mg "tuple" = none := by
      refine' PySem.W.mg_none_of KX G ?z
      (case z => k_is)
    have m_zip : mg "zip" = none := by
      refine' PySem.W.mg_none_of KX G ?z
      (case z => k_is)
    have k_MOST_UNKNOWNS : ∃ u, mg "MOST_UNKNOWNS" = some u ∧ L2.RelV (.int 3) u := by
      refine' ⟨?u_MOST_UNKNOWNS, PySem.W.mg_of KX G ?z_MOST_UNKNOWNS, ?r_MOST_UNKNOWNS⟩
      (case z_MOST_UNKNOWNS => k_is)
      all_goals exact ⟨_, rfl⟩
    refine' CK.with_tup KX "SIDES" [L2.V.str "left", L2.V.str "right"] (CK.tupF KX G ?a ?l ?c ?d ?s ?v) fun k_SIDES => ?_
    (case a => k_is); (case l => k_is); (case c => rfl); (case d => rfl); (case s => decide); (case v => exact .cons ⟨_, rfl⟩ (.cons ⟨_, rfl⟩ (.nil)))
    have T : K76.Txt _ mg := ⟨d_is_whole, d_is_count, d_is_within, d_need_within, d_need_many, d_is_form_for, d_need_form_for, d_form_sum, d_form_difference, d_at_most, d_need_side, d_mark_moved, d_law_hash, d_law_random, d_law_cell, d_law_generator, d_law_form, d_law_value, d_law_point, d_law_added, d_law_less, d_law_below, d_law_spots, d_law_part, d_law_spot, d_law_due, d_law_at_point, d_law_right, d_law, m_all, m_bool, m_int, m_isinstance, m_len, m_max, m_range, m_repr, m_str, m_sum, m_tuple, m_zip, k_MOST_UNKNOWNS, k_SIDES⟩
    exact K76.law_end T hmg
