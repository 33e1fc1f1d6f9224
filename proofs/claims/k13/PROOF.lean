import PyProof.Rows.All
import Wide.All
import OpenK.AllK
import Wide.FinOn
import HandS.ForMost
import HandS.Wide
import HandS.WideBits
import HandS.TupAny
import HandS.TupMul
import HandS.IsInst
import HandS.Walk
import HandS.Style
import KE.GoesZip
import KE.GoesMore
import KE.GoesEnum
import HandS.Codes
import HandS.FStrTup
import PyProof.ListMulRoad
import PyProof.FactsAll.tuple_2
import PyProof.ReprLoop
import PyProof.ReprHeadsTuple
import PyProof.StrHeap
import PyProof.CallStr
import HandS.StrMore
import HandS.SortInts
import PyProof.Rows.StrRev
import PyProof.StrOps2
import KE.DataAny
import HandS.OwnEq
import PySem.Challenge.RW_countscribe_k13_whole_one_normal_list
set_option Elab.async false
set_option linter.all false
set_option maxRecDepth 100000
set_option maxHeartbeats 2000000
/-! rules that the layer lacks: a power of great numbers, zip over a list and a tuple in any mix -/
namespace CK
open PySem PySem.Spec PyProof.Rows L2

section
variable {X : Cx}
theorem op_powB : OpR X (binaryOp .Pow) (rI (fun i j => 0 ≤ j ∧ (Builtin.Int.intBits i : Int) * j ≤ 2 ^ 27) fun i j => .int (i ^ j.toNat)) :=
  opI fun _ _ _ _ _ _ _ c q => pow_int c.1 c.2 q
end

/-- a list, or a tuple -/
inductive Kd | L | T
def SqB (K : PySem.W.Frag) : Kd → Hp → Addr → List V → Prop
  | .L, H, a, xs => SqL K H a xs
  | .T, H, a, xs => SqT K H a xs
def HasB : Kd → Heap → Addr → Array Value → Prop
  | .L, h, a, xs => h.IsList a xs
  | .T, h, a, xs => h.IsTuple a xs
def IterB : Kd → Heap → Addr → Addr → Nat → Prop
  | .L, h, it, a, i => h.IsListIter it a i
  | .T, h, it, a, i => h.IsTupleIter it a i
def objB : Kd → Addr → Obj
  | .L, a => { cls := .type "list_iterator", data := .fields #[.ref a, .int 0 0] }
  | .T, a => { cls := .type "tuple_iterator", data := .fields #[.ref a, .int 0 0] }
theorem drawsB (k : Kd) {prog : Program} {w : World} {A : Around} (hh : A.handled = none) (it t : Addr) (ne : t ≠ it) (zs : Array Value) :
    Draws prog w A it [it, t] zs.size (fun i v => zs[i]? = some v) (fun i h => IterB k h it t i ∧ HasB k h t zs) := by
  cases k with
  | L => exact Draws.list hh it t ne zs
  | T => exact Draws.tuple hh it t ne zs
theorem beginsB (k : Kd) (t : Addr) (zs : Array Value) : Begins (.ref t) (objB k t) fun h => HasB k h t zs := by
  cases k with
  | L => exact begins_list t zs
  | T => exact begins_tuple t zs
theorem IterB.at {k : Kd} {h h' : Heap} {it a : Addr} {i : Nat} (x : IterB k h it a i) (e : ∀ o, h.get? it = some o → h'.get? it = some o) : IterB k h' it a i := by
  cases k with
  | L => exact Heap.IsListIter.at x e
  | T => exact Heap.IsTupleIter.at x e
theorem IterB.there {k : Kd} {h : Heap} {it a : Addr} {i : Nat} (x : IterB k h it a i) : ∃ o, h.get? it = some o ∧ ∀ v, o.data ≠ .cell v := by
  cases k with
  | L =>
    obtain ⟨o, e, _, d⟩ := x
    exact ⟨o, e, fun v z => by rw [d] at z; cases z⟩
  | T =>
    obtain ⟨o, e, _, d⟩ := x
    exact ⟨o, e, fun v z => by rw [d] at z; cases z⟩
theorem IterB.new {k : Kd} {h : Heap} {it a : Addr} (e : h.get? it = some (objB k a)) : IterB k h it a 0 := by
  cases k with
  | L => exact ⟨_, e, rfl, rfl⟩
  | T => exact ⟨_, e, rfl, rfl⟩
theorem SqB.get {X : Cx} {pins : List (Addr × Obj)} {σ : L2.St} {H : Hp} {s : Shared} {k : Kd} {a : Addr} {xs : List V} (I : Inv X pins σ H s) (h : SqB X.K k H a xs) :
    ∃ zs : List Value, Vals xs zs ∧ HasB k s.heap a zs.toArray ∧ a < s.heap.objs.size := by
  cases k with
  | L =>
    obtain ⟨zs, r, p, _⟩ := I.list h
    exact ⟨zs, r, p.isList, p.lt⟩
  | T =>
    obtain ⟨zs, r, p, _⟩ := I.tuple h
    exact ⟨zs, r, p, p.lt⟩
theorem SqB.inj {X : Cx} {pins : List (Addr × Obj)} {σ : L2.St} {H : Hp} {s : Shared} {k : Kd} {a : Addr} {xs ys : List V} (I : Inv X pins σ H s) (h : SqB X.K k H a xs) (h' : SqB X.K k H a ys) : xs = ys := by
  cases k with
  | L => exact I.list_inj h h'
  | T => exact I.tuple_inj h h'

/-- both as they stand at each turn, the items in new pairs -/
def ItB (K : PySem.W.Frag) (k k' : Kd) (a b : Addr) : It :=
  ⟨fun i H => ∃ (xs ys : List V) (x y : V), SqB K k H a xs ∧ SqB K k' H b ys ∧ xs[i]? = some x ∧ ys[i]? = some y,
    fun i H v H' => ∃ T x y, v = .ref T ∧ H T = none ∧ H' = upd H T (.tup [x, y]) ∧ (∀ xs, SqB K k H a xs → xs[i]? = some x) ∧ ∀ ys, SqB K k' H b ys → ys[i]? = some y,
    fun i H => ∃ xs ys : List V, SqB K k H a xs ∧ SqB K k' H b ys ∧ i ≤ xs.length ∧ i ≤ ys.length ∧ (i = xs.length ∨ i = ys.length)⟩
theorem five {z TI TO i1 i2 c : Addr} (h : c ∈ [z, TI, TO, i1, i2]) : c = z ∨ c = TI ∨ c = TO ∨ c = i1 ∨ c = i2 := by simpa using h
theorem turnB {P : Program} {w : World} {K : PySem.W.Frag} {elts : List Expr} {kk : Nat} {tp : Pos} {k k' : Kd} {a b z TI TO i1 i2 : Addr} (S : ZipSep2 z TI TO i1 i2 [i1, a] [i2, b]) (na : a ≠ i1) (nb : b ≠ i2) :
    Turn P w K (.Tuple elts kk tp) (ItB K k k' a b) [z, TI, TO, i1, i2] z
      (fun i h => IsZip h z TI TO .none ∧ IsTupOf2 h TI (.ref i1) (.ref i2) ∧ (∃ x y, IsTupOf2 h TO x y) ∧ IterB k h i1 a i ∧ IterB k' h i2 b i) where
  mem := by simp
  obj := fun i h st c hc => by
    obtain ⟨hz, hI, ⟨x, y, hO⟩, h1, h2⟩ := st
    rcases five hc with q | q | q | q | q <;> subst q
    · exact ⟨_, hz, fun v q => nomatch q⟩
    · exact ⟨_, hI, fun v q => nomatch q⟩
    · exact ⟨_, hO, fun v q => nomatch q⟩
    · exact h1.there
    · exact h2.there
  keep := fun i h h' st q => by
    obtain ⟨hz, hI, ⟨x, y, hO⟩, h1, h2⟩ := st
    exact ⟨q z (by simp) _ hz, q TI (by simp) _ hI, ⟨x, y, q TO (by simp) _ hO⟩, h1.at (q i1 (by simp)), h2.at (q i2 (by simp))⟩
  item := by
    intro X hP hw hK hc i pins s σ H E I hf st hg
    subst hP hw hK
    obtain ⟨hz, hI, ⟨x0, y0, hO⟩, h1, h2⟩ := st
    obtain ⟨xs, ys, x, y, qx, qy, hx, hy⟩ := hg
    obtain ⟨zs, r1, p1, la⟩ := SqB.get I qx
    obtain ⟨zs', r2, p2, lb⟩ := SqB.get I qy
    obtain ⟨u, hu, ru⟩ := r1.get hx
    obtain ⟨u2, hu2, ru2⟩ := r2.get hy
    have z0 : z < s.heap.objs.size := Heap.lt_size hz
    have l1 : i < zs.toArray.size := by
      obtain ⟨q, _⟩ := List.getElem?_eq_some_iff.mp hu
      simpa using q
    have l2 : i < zs'.toArray.size := by
      obtain ⟨q, _⟩ := List.getElem?_eq_some_iff.mp hu2
      simpa using q
    have hh : X.A.in1.handled = none := I.ok.hd hc
    refine wpAny_pyNext_zipD2_item S (drawsB k hh i1 a na zs.toArray) (drawsB k' hh i2 b nb zs'.toArray) hz hI hO ⟨h1, p1⟩ ⟨h2, p2⟩ l1 l2 fun x1 x2 h' tk e1 e2 z' TO' t1 t2 hT hsz hk => ?_
    have e1' : x1 = u := by
      have q : zs[i]? = some x1 := by simpa using e1
      exact Option.some.inj (q.symm.trans hu)
    have e2' : x2 = u2 := by
      have q : zs'[i]? = some x2 := by simpa using e2
      exact Option.some.inj (q.symm.trans hu2)
    subst e1' e2'
    refine ⟨_, rfl, wpAny_letOwnedTupleGo_zip (s := { s with heap := h', toks := tk }) z' fun h'' z'' sb => ?_⟩
    have hT2 : h''.get? s.heap.objs.size = some { cls := .type "tuple", data := .seq #[x1, x2] } := (sb.2 _ (Nat.ne_of_gt z0)).trans hT
    have new : ObjOk X.prog X.w (upd H s.heap.objs.size (.tup [x, y])) h'' s.heap.objs.size (.tup [x, y]) :=
      ⟨by show 2 ≤ sizeLine; decide, [x1, x2], .cons ru (.cons ru2 .nil), ⟨_, hT2, rfl, _, rfl⟩⟩
    have I1 : Inv X pins σ (upd H s.heap.objs.size (.tup [x, y])) { s with heap := h'', toks := tk } :=
      I.turnedNew (ch := [z, TI, TO, i1, i2]) (fun c o hb q => by
        have n : c ≠ z ∧ c ≠ TI ∧ c ≠ TO ∧ c ≠ i1 ∧ c ≠ i2 := by simpa using hb
        exact (sb.2 c n.1).trans (hk c o n.1 n.2.2.1 n.2.2.2.1 n.2.2.2.2 q)) hf (Nat.le_refl _) new
    refine ⟨.ref s.heap.objs.size, _, I1, rfl, ⟨_, x, y, rfl, I.hok.fresh (Nat.le_refl _), rfl, fun l hl => by rw [SqB.inj I hl qx]; exact hx, fun l hl => by rw [SqB.inj I hl qy]; exact hy⟩, ⟨z'', ?_, ⟨x1, x2, ?_⟩, ?_, ?_⟩, fun c hcm => ?_⟩
    · exact (sb.2 _ S.TIz).trans (hk _ _ S.TIz S.TITO S.TIi1 S.TIi2 hI)
    · exact (sb.2 _ S.TOz).trans TO'
    · exact t1.1.at fun o q => (sb.2 _ S.zi1.symm).trans q
    · exact t2.1.at fun o q => (sb.2 _ S.zi2.symm).trans q
    · have lt : c < s.heap.objs.size := by
        rcases five hcm with q | q | q | q | q <;> subst q
        · exact z0
        · exact Heap.lt_size hI
        · exact Heap.lt_size hO
        · obtain ⟨_, e, _⟩ := h1.there
          exact Heap.lt_size e
        · obtain ⟨_, e, _⟩ := h2.there
          exact Heap.lt_size e
      rw [upd_ne (Nat.ne_of_lt lt)]
      exact (hf c hcm).1
  done := by
    intro X hP hw hK hc i pins s σ H E I hf st hg
    subst hP hw hK
    obtain ⟨hz, hI, ⟨x0, y0, hO⟩, h1, h2⟩ := st
    obtain ⟨xs, ys, qx, qy, m1, m2, hend⟩ := hg
    obtain ⟨zs, r1, p1, la⟩ := SqB.get I qx
    obtain ⟨zs', r2, p2, lb⟩ := SqB.get I qy
    have e1 : zs.toArray.size = xs.length := by rw [List.size_toArray]; exact r1.length.symm
    have e2 : zs'.toArray.size = ys.length := by rw [List.size_toArray]; exact r2.length.symm
    have hh : X.A.in1.handled = none := I.ok.hd hc
    exact wpAny_pyNext_zipD2_end S (drawsB k hh i1 a na zs.toArray) (drawsB k' hh i2 b nb zs'.toArray) hz hI hO ⟨h1, p1⟩ ⟨h2, p2⟩ (by omega) (by omega) (by omega) fun h' tk hk =>
      ⟨rfl, I.turnedL (ch := [z, TI, TO, i1, i2]) (fun c o hb q => by
        have n : c ≠ z ∧ c ≠ TI ∧ c ≠ TO ∧ c ≠ i1 ∧ c ≠ i2 := by simpa using hb
        exact hk c o n.1 n.2.2.1 n.2.2.2.1 n.2.2.2.2 q) hf⟩
  self := fun A i s Q E st h => wpAny_pyIter_zip st.1 h

def iZipB (K : PySem.W.Frag) (ta : TA) : TI := fun σ H R => ta σ H fun vs H1 => ∃ (k k' : Kd) (a b : Addr) (xs ys : List V), vs = [.ref a, .ref b] ∧ SqB K k H1 a xs ∧ SqB K k' H1 b ys ∧ R (ItB K k k' a b) H1
theorem pi_zipB {X : Cx} {K : PySem.W.Frag} {e e2 : Expr} {ta : TA} {p pos tp : Pos} {elts : List Expr} {kk : Nat} (hK : X.K = K) (hg : Gl X "zip") (hm : X.mg "zip" = none) (ha : PA X [e, e2] ta)
    (hs : starEach [e, e2] X.env = (false, eval e X.env) :: starEach [e2] X.env := by rfl) (hpl : (backTo pos (starEach [e2] X.env)).any (·.1) = false := by rfl) :
    PI X (.Tuple elts kk tp) (.Call (.Name "zip" p) [e, e2] [] pos) (iZipB K ta) := by
  subst hK
  refine ⟨fun pins s σ H R I h => Call_ (ld_blt I hg hm PyProof.Rows.boot_zip (callWith_type1 (thn (ha.run pos pins s σ H _ I h) fun us s1 q => ?_) hs hpl))⟩
  obtain ⟨vs, H1, I1, r1, k, k', a, b, xs, ys, rfl, qx, qy, q⟩ := q
  cases r1 with
  | cons r rr =>
  cases rr with
  | cons r' rr =>
  cases rr
  cases r
  cases r'
  obtain ⟨zs, _, p1, la⟩ := SqB.get I1 qx
  obtain ⟨zs', _, p2, lb⟩ := SqB.get I1 qy
  refine zip_begins2 (beginsB k a zs.toArray) (beginsB k' b zs'.toArray) p1 p2 fun h' hz hI hO o1 o2 hsz hk => wpAny_pyIter_zip hz ?_
  have S := zip_sep2 (N := s1.heap.objs.size) (fp1 := [a]) (fp2 := [b]) (fun c hc => by rw [List.mem_singleton.mp hc]; exact la) (fun c hc => by rw [List.mem_singleton.mp hc]; exact lb)
  refine ⟨s1.heap.objs.size + 4, _, _, _, H1, rfl, I1.kept (t' := s1.toks) hk, turnB S (Nat.ne_of_lt la) (Nat.ne_of_lt (Nat.lt_succ_of_lt lb)), ⟨hz, hI, ⟨_, _, hO⟩, .new o1, .new o2⟩, fun c hc => ?_, q⟩
  have le : s1.heap.objs.size ≤ c := by
    rcases five hc with z | z | z | z | z <;> subst z <;> first | exact Nat.le_add_right _ _ | exact Nat.le_refl _
  exact I1.fpOk le (I1.hok.fresh le)
theorem walkB {K : PySem.W.Frag} {k k' : Kd} {a b : Addr} {xs ys : List V} (hl : xs.length = ys.length) :
    Walk (ItB K k k' a b) xs.length (fun H => SqB K k H a xs ∧ SqB K k' H b ys) (YPair (fun i => xs[i]?) (fun i => ys[i]?)) := by
  refine ⟨fun i H hi q => ?_, fun H q => ⟨xs, ys, q.1, q.2, Nat.le_refl _, Nat.le_of_eq hl, .inl rfl⟩, fun i H v H' _ q y => ?_⟩
  · have h2 : i < ys.length := by omega
    exact ⟨xs, ys, xs[i], ys[i], q.1, q.2, by simp [hi], by simp [h2]⟩
  · obtain ⟨T, x, z, h1, h2, h3, h4, h5⟩ := y
    exact ⟨T, x, z, h1, h2, h3, h4 xs q.1, h5 ys q.2⟩
end CK

set_option Elab.async false
set_option linter.all false
set_option maxRecDepth 100000
set_option maxHeartbeats 4000000
namespace CK
open PySem PySem.Spec PyProof.Rows L2
theorem mulFill : fillsNumberSlot (.type "tuple") "mul" = pure false :=
  PySem.fillsNumberSlot_seq (r := some (.builtin "tuple.__rmul__")) (id := "tuple.__mul__") PySem.F.slot_tuple_mul.lookup (by decide +kernel)
    PySem.F.slot_tuple_rmul.lookup (by decide +kernel)
theorem mulSeq : seqRepeat? (.type "tuple") = pure (some (.builtin "tuple.__mul__")) := by
  unfold seqRepeat?
  rw [PySem.seqSlot_of (name := "__mul__") (id := "tuple.__mul__") (T := "tuple") PySem.F.slot_tuple_mul.lookup (by decide +kernel),
    PySem.seqSlot_of (name := "__rmul__") (id := "tuple.__rmul__") (T := "tuple") PySem.F.slot_tuple_rmul.lookup (by decide +kernel)]
  rfl
theorem rmulNo (a : Int) (t : Tok) (l : Addr) (zs : Array Value) (n : Nat) (dd : Option Addr) (sl : Array (Option Value)) :
    Meets (Builtin.«int.__rmul__» ⟨[.int a t, .ref l], []⟩) (fun _ R s =>
      s.heap.get? l = some { cls := .type "tuple", dict := dd, data := .seq zs n, slots := sl } ∧ R (.ok (.ret Value.notImplemented)) s) := by
  refine Meets.of_wp fun prog w A R s h => ?_
  obtain ⟨hq, g, d, tk, o2⟩ := s
  obtain ⟨hl, h⟩ := h
  wp_walk using wpAny_loadPart' hl
  exact ⟨_, rfl, h⟩
/-- one item, no times: a new empty tuple -/
theorem mul0 (l : Addr) (v : Value) (n : Nat) (dd : Option Addr) (sl : Array (Option Value)) (u : Tok) :
    Meets (Builtin.«tuple.__mul__» ⟨[.ref l, .int 0 u], []⟩) (fun _ R s =>
      s.heap.get? l = some { cls := .type "tuple", dict := dd, data := .seq #[v] n, slots := sl } ∧
      R (.ok (.ret (Value.ref s.heap.objs.size))) { s with heap := s.heap.push { cls := Value.type "tuple", data := Data.seq #[] } }) := by
  refine Meets.of_wp fun prog w A R s h => ?_
  obtain ⟨hq, g, d, tk, o2⟩ := s
  obtain ⟨hl, h⟩ := h
  have f1 := AutoSeq1.idx_int
  wp_walk using wpAny_loadPart' hl
  exact ⟨_, rfl, h⟩
/-- one item, once: the tuple itself -/
theorem mul1 (l : Addr) (v : Value) (n : Nat) (dd : Option Addr) (sl : Array (Option Value)) (u : Tok) :
    Meets (Builtin.«tuple.__mul__» ⟨[.ref l, .int 1 u], []⟩) (fun _ R s =>
      s.heap.get? l = some { cls := .type "tuple", dict := dd, data := .seq #[v] n, slots := sl } ∧ R (.ok (.ret (Value.ref l))) s) := by
  refine Meets.of_wp fun prog w A R s h => ?_
  obtain ⟨hq, g, d, tk, o2⟩ := s
  obtain ⟨hl, h⟩ := h
  have f1 := AutoSeq1.idx_int
  have f2 : (⟨hq, g, d, tk, o2⟩ : Shared).TypeIs (.ref l) "tuple" := ⟨_, hl, rfl⟩
  wp_walk using wpAny_loadPart' hl, wpAny_typeOf f2
  exact ⟨_, rfl, h⟩
section
variable {X : Cx}
theorem sameNew {H : Hp} {p : Addr} {o : HO} (h : H p = none) : Same H (upd H p o) := fun b z e => by
  rw [upd_ne (ne_of_none e h)]
  exact e
/-- one item, k times: 0 or 1 -/
def rRep01 : R2 := fun x y H Q => ∃ (l : Addr) (k : Int) (v : V), x = .ref l ∧ y = .int k ∧ H l = some (.tup [v]) ∧ (k = 0 ∨ k = 1) ∧
  ∀ p H', Same H H' → H' p = some (.tup (List.replicate k.toNat v)) → Q (.ref p) H'
theorem op_rep01 : OpR X (binaryOp .Mult) rRep01 := by
  intro pins s σ H x y xv yv Q I rx ry h
  obtain ⟨l, k, v, rfl, rfl, hl, hk, q⟩ := h
  cases rx
  obtain ⟨t, rfl⟩ := ry
  obtain ⟨zs, r, ⟨⟨cl, dd, da, sl⟩, ho, hc, n, hd⟩, hs⟩ := I.tuple (.inl (.inl hl) : SqT X.K H l [v])
  simp only at hc hd
  subst hc hd
  cases r with
  | cons r1 r2 =>
  cases r2
  rename_i u
  rcases hk with e | e <;> subst e
  · refine wpAny_binaryOp_repeat_ref (T := "tuple") (U := "int") (by decide) ⟨_, ho, rfl⟩ (fun s' => typeIs_int s' 0 t) mulFill F.fills_int_mul F.slot_int_rmul mulSeq F.slot_int_index.lookup
      (call_meets F.slot_int_rmul (typeIs_int s 0 t) F.entry_int_rmul (F.args_int_rmul_2 _ _) (rmulNo 0 t l _ n dd sl)
        ⟨ho, rfl, ⟨_, ho, rfl⟩, call_meets F.slot_tuple_mul ⟨_, ho, rfl⟩ F.entry_tuple_mul (F.args_tuple_mul_2 _ _) (mul0 l _ n dd sl t) ⟨ho, ?_⟩⟩)
    have hn : H s.heap.objs.size = none := I.hok.fresh (Nat.le_refl _)
    refine ⟨.ref s.heap.objs.size, _, I.laid (t' := s.toks) (o := .tup []) (fun b ob q => Heap.get?_push_of_some _ q) (Nat.le_refl _) ?_, rfl, q _ _ (sameNew hn) upd_same⟩
    exact ⟨Nat.zero_le _, [], .nil, IsTup.new _ _⟩
  · exact wpAny_binaryOp_repeat_ref (T := "tuple") (U := "int") (by decide) ⟨_, ho, rfl⟩ (fun s' => typeIs_int s' 1 t) mulFill F.fills_int_mul F.slot_int_rmul mulSeq F.slot_int_index.lookup
      (call_meets F.slot_int_rmul (typeIs_int s 1 t) F.entry_int_rmul (F.args_int_rmul_2 _ _) (rmulNo 1 t l _ n dd sl)
        ⟨ho, rfl, ⟨_, ho, rfl⟩, call_meets F.slot_tuple_mul ⟨_, ho, rfl⟩ F.entry_tuple_mul (F.args_tuple_mul_2 _ _) (mul1 l _ n dd sl t)
          ⟨ho, ⟨.ref l, H, I, rfl, q l H (Same.refl H) hl⟩⟩⟩)
/-! ### str(tuple of whole numbers): some text -/
theorem reprInts {prog : Program} {w : World} : ∀ {ns : List Int} {zs : List Value}, Vals (ns.map V.int) zs → (∀ n ∈ ns, n.natAbs.log2 < 1920) → ReprAll prog w zs (ns.map fun n => (toString n : Str))
  | [], _, r, _ => by
    cases r
    exact .nil
  | n :: l, _, r, h => by
    cases r with
    | cons r1 r2 =>
    obtain ⟨t, rfl⟩ := r1
    exact .cons (ReprIs.int t (h n List.mem_cons_self)) (reprInts r2 fun z hz => h z (List.mem_cons_of_mem _ hz))
end
end CK
namespace CK
open PySem PySem.Spec PyProof.Rows L2
section
variable {X : Cx}
/-- one item, k times -/
def rRepOne (K : PySem.W.Frag) : R2 := fun x y H Q => ∃ (l : Addr) (k : Int) (v : V), x = .ref l ∧ y = .int k ∧ H l = some (.tup [v]) ∧ 0 ≤ k ∧ k ≤ 1000 ∧
  ∀ p H', Same H H' → H' p = some (.tup (List.replicate k.toNat v)) → Q (.ref p) H'
theorem flat_rep {α : Type} (v : α) : ∀ n : Nat, (List.replicate n [v]).flatten = List.replicate n v
  | 0 => rfl
  | n + 1 => by rw [List.replicate_succ, List.flatten_cons, flat_rep v n, List.replicate_succ]; rfl
theorem op_repOne : OpR X (binaryOp .Mult) (rRepOne X.K) := by
  intro pins s σ H x y xv yv Q I rx ry h
  obtain ⟨l, k, v, rfl, rfl, hl, h0, h1, q⟩ := h
  by_cases hk : k = 0 ∨ k = 1
  · exact op_rep01 pins s σ H _ _ xv yv Q I rx ry ⟨l, k, v, rfl, rfl, hl, hk, q⟩
  · refine op_repT pins s σ H _ _ xv yv Q I rx ry ⟨l, k, [v], rfl, rfl, .inl (.inl hl), List.cons_ne_nil _ _, by omega, h1, by show 1 ≤ 1000; omega, fun p hp => q p _ (sameNew hp) ?_⟩
    rw [upd_same, flat_rep]
/-- str of a tuple of whole numbers: some text -/
theorem call_str_tup {k : Nat} (hr : Room k X.A) : CallR X (.type "str") (fun xs H Q => ∃ (a : Addr) (ns : List Int), xs = [.ref a] ∧ H a = some (.tup (ns.map V.int)) ∧ ns.length ≤ 100 ∧ (∀ n ∈ ns, n.natAbs.log2 < 1920) ∧ ∀ m : Str, Q (.str m) H) := by
  intro pins s σ H xs us Q I r h
  obtain ⟨a, ns, rfl, ha, hl, hn, q⟩ := h
  obtain ⟨u, rfl, rx⟩ := vals1 r
  cases rx
  obtain ⟨zs, rv, ⟨o, ho, hc, n, hd⟩, hz⟩ := I.tuple (.inl (.inl ha) : SqT X.K H a _)
  have hu := hr.units
  have hT : ReprAll X.prog X.w zs.toArray.toList (ns.map fun n => (toString n : Str)) := by simpa using reprInts rv hn
  have hp : ∀ l : List Int, (∀ n ∈ l, n.natAbs.log2 < 1920) → piled (l.map fun n => (toString n : Str)) ≤ l.length * 1923 := by
    intro l
    induction l with
    | nil => intro _; exact Nat.le_refl _
    | cons z l ih =>
      intro h
      have a1 := int_text_length_le (a := z) (k := 1920) (by omega) (h z List.mem_cons_self)
      have a2 := ih fun n hn => h n (List.mem_cons_of_mem _ hn)
      rw [List.map_cons, piled_cons, List.length_cons]
      have a3 : ((toString z : Str)).length = (toString z).length := PySem.ofString_length _
      omega
  have h1 := fmt_text (ns.map fun n => (toString n : Str))
  have h2 := hp ns hn
  have h3 : ns.length * 1923 ≤ 192300 := by omega
  have h4 : (tupleText (ns.map fun n => (toString n : Str))).length ≤ sizeLine := by
    rw [sizeLine_eq]
    omega
  refine callType_new F.called_str (by decide) (F.typeCall_str_1 _) (F.newCall_str_1 _) (fun obj => F.args_object_init_2 obj _) F.entry_str_new
    (meets_str_new (S := fun A' R s' => A'.units + 4 < cLine ∧ s'.heap.get? a = some o ∧ ∀ (m : Str) (u tk : Tok), R (.ok (.ret (.str m u))) { s' with toks := tk }) fun prog w A' R s' h =>
      wpAny_strOf_slot rfl (by show A'.units + 1 + 1 < cLine; have := h.1; omega) ⟨o, h.2.1, hc⟩ F.slot_tuple_str F.slot_tuple_repr
        (fmt_tuple_repr h.2.1 hc hd ?_ h4 fun m u tk _ => ⟨m, u, rfl, h.2.2 m u tk⟩))
    ⟨by show X.A.units + 1 + 4 < cLine; omega, ho, fun m u tk => ⟨typeIs_str _ _ _, .str m, H, I.tok _, ⟨u, rfl⟩, q m⟩⟩
  exact by simpa using reprInts rv hn
end
end CK

set_option Elab.async false
set_option linter.all false
set_option maxRecDepth 100000
set_option maxHeartbeats 2000000
namespace CK
open PySem PySem.Spec PyProof.Rows L2
/-! ### a def as it stands behind the top, and its promise by its body -/
structure DefF (K : PySem.W.Frag) (mg : Str → Option Value) (x : Str) (st : Stmt) (ps : List Str) : Prop where
  ex : ∃ (f : Addr) (fd : FuncData), C8.Def K mg x st f fd ∧ ∀ us : List Value, us.length = ps.length → bindArgs fd ⟨us, []⟩ = pure (ps.zip us)
theorem defF_mk {K : PySem.W.Frag} {h : Heap} {mg : Str → Option Value} {x : Str} {st : Stmt} {ps : List Str} {f : Addr} {od an : Option Addr} {oc kV dc pm cd ct : Value} {sl : Array (Option Value)}
    (X : K.In h) (G : h.Ns mainGlobals mg) (a : PySem.W.nsIn K mainGlobals x = some (some (.ref f)))
    (l : K.lookup f = some ⟨oc, od, .func (PySem.W.fnOf x x (C8.fnArgs st) (C8.fnBody st) (C8.fnScope st) .none kV dc pm an cd ct), sl⟩)
    (c : PySem.W.codeIn K cd x = true) (k : PySem.W.keepIn K (.ref f) = true)
    (hb : ∀ (kV doc pm : Value) (an : Option Addr) (cdv ct : Value) (us : List Value), us.length = ps.length →
      bindArgs (PySem.W.fnOf x x (C8.fnArgs st) (C8.fnBody st) (C8.fnScope st) .none kV doc pm an cdv ct) ⟨us, []⟩ = pure (ps.zip us)) : DefF K mg x st ps :=
  ⟨f, _, ⟨⟨oc, od, .none, kV, dc, pm, an, cd, ct, sl, rfl, l, c⟩, PySem.W.mg_of X G a, k⟩, hb kV dc pm an cd ct⟩
theorem calF {P : Program} {w : World} {K : PySem.W.Frag} {mg : Str → Option Value} {base : Heap} {x : Str} {st : Stmt} {N ps : List Str} {k : Nat} {sp : Sp} (D : DefF K mg x st ps) (S : FnScope N ps (C8.fnScope st))
    (len : ∀ vs H Q E, sp vs H Q E → vs.length = ps.length)
    (hbody : ∀ (f : Addr) (cdv : Value) (A : Around) (outer : List Env) (s : Shared) (H : Hp) (vs : List V) (Q : VK) (E : XK), Room k (A.deeper (envOfC x (C8.fnScope st) s.heap.objs.size f cdv)) → sp vs H Q E →
      ∃ t, PSs (cxOf C8.CX0 P w K mg base N x (C8.fnScope st) f cdv A outer s H E).nox (C8.fnBody st) t ∧ t { nx := fun _ H' => Q .non H', rt := Q } (start N vs) H) : C8.Cal P w K mg base (k + 1) x sp [] := by
  obtain ⟨f, fd, F, b⟩ := D.ex
  exact C8.cal0 F (.all b) .nil S len (hbody f)
/-- a def of one parameter as it stands, for the law's end -/
theorem DefF.one {K : PySem.W.Frag} {mg : Str → Option Value} {x p : Str} {st : Stmt} (D : DefF K mg x st [p]) : ∃ (f : Addr) (fd : FuncData), mg x = some (.ref f) ∧ (∀ (s : Shared) (v : Value), BindsTo s fd ⟨[v], []⟩ [(p, v)]) ∧
    ∀ {P : Program} {w : World} {base : Heap} {N : List Str} {k : Nat} {sp : Sp} (S : FnScope N [p] (C8.fnScope st)) (len : ∀ vs H Q E, sp vs H Q E → vs.length = 1)
      (hbody : ∀ (f : Addr) (cdv : Value) (A : Around) (outer : List Env) (s : Shared) (H : Hp) (vs : List V) (Q : VK) (E : XK), Room k (A.deeper (envOfC x (C8.fnScope st) s.heap.objs.size f cdv)) → sp vs H Q E →
        ∃ t, PSs (cxOf C8.CX0 P w K mg base N x (C8.fnScope st) f cdv A outer s H E).nox (C8.fnBody st) t ∧ t { nx := fun _ H' => Q .non H', rt := Q } (start N vs) H), FnOk P w K mg base C8.CX0 (k + 1) f fd [p] sp := by
  obtain ⟨f, fd, F, b⟩ := D.ex
  exact ⟨f, fd, F.mgf, fun s v => .of_eq (b [v] rfl), fun S len hbody => C8.fn0 F.fn S len (hbody f)⟩

theorem with_def {K : PySem.W.Frag} {h : Heap} {mg : Str → Option Value} (_ : K.In h) (x : Str) (st : Stmt) (ps : List Str) {R : Prop} (d : DefF K mg x st ps) (r : DefF K mg x st ps → R) : R := r d
/-! ### heaps -/
/-- all that was tracked is as it was, but for g -/
def SameX (g : Addr) (H H' : Hp) : Prop := ∀ b o, b ≠ g → H b = some o → H' b = some o
theorem SameX.refl (g : Addr) (H : Hp) : SameX g H H := fun _ _ _ h => h
theorem SameX.trans {g : Addr} {H H1 H2 : Hp} (a : SameX g H H1) (b : SameX g H1 H2) : SameX g H H2 := fun c o n h => b c o n (a c o n h)
theorem SameX.of {g : Addr} {H H1 : Hp} (a : Same H H1) : SameX g H H1 := fun c o _ h => a c o h
theorem sameX_upd {g : Addr} {H : Hp} {o : HO} : SameX g H (upd H g o) := fun b z n e => by
  rw [upd_ne n]
  exact e
theorem same_upd2 {H H1 : Hp} {D : Addr} {o : HO} (hD : H D = none) (s : Same H H1) : Same H (upd H1 D o) := fun b z e => by
  rw [upd_ne (ne_of_none e hD)]
  exact s b z e

/-! ### what a value is -/
/-- the built-in type of a value that is known -/
def tnm (H : Hp) : V → String
  | .non => "NoneType"
  | .bl _ => "bool"
  | .int _ => "int"
  | .str _ => "str"
  | .ref a => match H a with
    | some (.lst _) => "list"
    | some (.tup _) => "tuple"
    | _ => "?"
  | _ => "?"
theorem tnm_tup {H : Hp} {a : Addr} {xs : List V} (h : H a = some (.tup xs)) : tnm H (.ref a) = "tuple" := by
  simp only [tnm, h]
theorem tnm_lst {H : Hp} {a : Addr} {xs : List V} (h : H a = some (.lst xs)) : tnm H (.ref a) = "list" := by
  simp only [tnm, h]
/-- a value whose type is known -/
inductive Kn (H : Hp) : V → Prop
  | non : Kn H .non
  | bl (b : Bool) : Kn H (.bl b)
  | int (i : Int) : Kn H (.int i)
  | str (x : Str) : Kn H (.str x)
  | lst {a : Addr} {xs : List V} (e : H a = some (.lst xs)) : Kn H (.ref a)
  | tup {a : Addr} {xs : List V} (e : H a = some (.tup xs)) : Kn H (.ref a)
theorem Kn.same {H H' : Hp} {v : V} (k : Kn H v) (s : Same H H') : Kn H' v := by
  cases k with
  | non => exact .non
  | bl b => exact .bl b
  | int i => exact .int i
  | str x => exact .str x
  | lst e => exact .lst (s _ _ e)
  | tup e => exact .tup (s _ _ e)
theorem Kn.ty {K : PySem.W.Frag} {H : Hp} {v : V} (k : Kn H v) : TyX K H v (.type (tnm H v)) := by
  cases k with
  | non => exact .base .non
  | bl b => exact .base (.bl b)
  | int i => exact .base (.int i)
  | str x => exact .base (.str x)
  | lst e => rw [tnm_lst e]; exact .base (.lst e)
  | tup e => rw [tnm_tup e]; exact .base (.tup e)
section
variable {X : Cx}
/-- isinstance(v, T), a known value, a built-in type -/
theorem call_isK : CallR X (.builtin "isinstance") (fun xs H Q => ∃ (v : V) (T : String) (b : Bool), xs = [v, .ty T] ∧ Kn H v ∧ kitB (tnm H v) T = some b ∧ Q (.bl b) H) := by
  intro pins s σ H xs us Q I r h
  obtain ⟨v, T, b, rfl, k, e, q⟩ := h
  exact call_isi pins s σ H _ us Q I r ⟨v, .ty T, _, _, b, rfl, .ty T, k.ty, kit_ty e, q⟩
end
/-- a whole number, no Boolean -/
def isW : V → Bool
  | .int _ => true
  | _ => false
/-- a count -/
def isC : V → Bool
  | .int i => decide (0 ≤ i)
  | _ => false
/-- isinstance(v, int) -/
def isI : V → Bool
  | .int _ => true
  | .bl _ => true
  | _ => false
def isBo : V → Bool
  | .bl _ => true
  | _ => false
def isTu (H : Hp) : V → Bool
  | .ref a => match H a with
    | some (.tup _) => true
    | _ => false
  | _ => false
def isLi (H : Hp) : V → Bool
  | .ref a => match H a with
    | some (.lst _) => true
    | _ => false
  | _ => false
theorem kit_int {H : Hp} {v : V} (k : Kn H v) : kitB (tnm H v) "int" = some (isI v) := by
  cases k with
  | non => show kitB "NoneType" "int" = some false; decide +kernel
  | bl b => show kitB "bool" "int" = some true; decide +kernel
  | int i => show kitB "int" "int" = some true; decide +kernel
  | str x => show kitB "str" "int" = some false; decide +kernel
  | lst e => rw [tnm_lst e]; show kitB "list" "int" = some false; decide +kernel
  | tup e => rw [tnm_tup e]; show kitB "tuple" "int" = some false; decide +kernel
theorem kit_bool {H : Hp} {v : V} (k : Kn H v) : kitB (tnm H v) "bool" = some (isBo v) := by
  cases k with
  | non => show kitB "NoneType" "bool" = some false; decide +kernel
  | bl b => show kitB "bool" "bool" = some true; decide +kernel
  | int i => show kitB "int" "bool" = some false; decide +kernel
  | str x => show kitB "str" "bool" = some false; decide +kernel
  | lst e => rw [tnm_lst e]; show kitB "list" "bool" = some false; decide +kernel
  | tup e => rw [tnm_tup e]; show kitB "tuple" "bool" = some false; decide +kernel
theorem kit_tuple {H : Hp} {v : V} (k : Kn H v) : kitB (tnm H v) "tuple" = some (isTu H v) := by
  cases k with
  | non => show kitB "NoneType" "tuple" = some false; decide +kernel
  | bl b => show kitB "bool" "tuple" = some false; decide +kernel
  | int i => show kitB "int" "tuple" = some false; decide +kernel
  | str x => show kitB "str" "tuple" = some false; decide +kernel
  | lst e => rw [tnm_lst e, show isTu H (.ref _) = false by simp only [isTu, e]]; decide +kernel
  | tup e => rw [tnm_tup e, show isTu H (.ref _) = true by simp only [isTu, e]]; decide +kernel
theorem kit_list {H : Hp} {v : V} (k : Kn H v) : kitB (tnm H v) "list" = some (isLi H v) := by
  cases k with
  | non => show kitB "NoneType" "list" = some false; decide +kernel
  | bl b => show kitB "bool" "list" = some false; decide +kernel
  | int i => show kitB "int" "list" = some false; decide +kernel
  | str x => show kitB "str" "list" = some false; decide +kernel
  | lst e => rw [tnm_lst e, show isLi H (.ref _) = true by simp only [isLi, e]]; decide +kernel
  | tup e => rw [tnm_tup e, show isLi H (.ref _) = false by simp only [isLi, e]]; decide +kernel
theorem isTu_tup {H : Hp} {a : Addr} {xs : List V} (e : H a = some (.tup xs)) : isTu H (.ref a) = true := by simp only [isTu, e]
theorem isLi_lst {H : Hp} {a : Addr} {xs : List V} (e : H a = some (.lst xs)) : isLi H (.ref a) = true := by simp only [isLi, e]

/-! ### comprehensions that map -/
/-- n turns, each giving f i and leaving all that was tracked -/
theorem lc_mapW {J : It} {n : Nat} {G : Hp → Prop} {Y : Nat → Hp → V → Hp → Prop} (w : Walk J n G Y) {g : TG} {te : TE} {vs : List Nat} {σ : L2.St} {H1 : Hp} {D : Addr} {Qd : Hp → Prop} (f : Nat → V) (hn : n < sizeLine)
    (hG : ∀ H, Same H1 H → G H)
    (hs : ∀ (i : Nat) (x : V) (H H' : Hp) (R : VK), i < n → Same H1 H → Y i H x H' → (∀ H'', Same H H'' → R (f i) H'') → g x (wipe σ vs) H' fun σ2 H2 => wipe σ2 vs = wipe σ vs ∧ te σ2 H2 R)
    (hD : H1 D = none) (hd : ∀ H : Hp, Same H1 H → H D = some (.lst ((List.range n).map f)) → Qd H) :
    ∃ W : Nat → Nat → Hp → Prop, (∃ m, W 0 m (upd H1 D (.lst []))) ∧ ∀ i m H, W i m H →
      (J.stop i H ∧ Qd H) ∨ (J.go i H ∧ ∃ Nx : Hp → Prop, (∀ H', Nx H' → ∃ m', m' < m ∧ W (i + 1) m' H') ∧ ∀ x H', J.yld i H x H' → g x (wipe σ vs) H' fun σ2 H2 => wipe σ2 vs = wipe σ vs ∧ tYes σ2 H2 fun b H3 =>
        if b = true then te σ2 H3 fun y H4 => ∃ acc, H4 D = some (.lst acc) ∧ acc.length < sizeLine ∧ Nx (upd H4 D (.lst (acc ++ [y]))) else Nx H3) := by
  refine lc_it w (fun i H => Same H1 H ∧ H D = some (.lst ((List.range i).map f)) ∧ i ≤ n) ⟨sameNew hD, upd_same, Nat.zero_le _⟩ (fun i H _ p => hG H p.1) (fun i x H H' hi p y => ?_) fun H p => hd H p.1 p.2.1
  have q := hs i x H H' (fun y H4 => ∃ acc, H4 D = some (.lst acc) ∧ acc.length < sizeLine ∧ (Same H1 (upd H4 D (.lst (acc ++ [y]))) ∧ upd H4 D (.lst (acc ++ [y])) D = some (.lst ((List.range (i + 1)).map f)) ∧ i + 1 ≤ n)) hi p.1 y fun H'' s => by
    refine ⟨_, s D _ p.2.1, ?_, same_upd2 hD (p.1.trans s), ?_, hi⟩
    · rw [List.length_map, List.length_range]
      omega
    · rw [upd_same, List.range_succ, List.map_append]
      rfl
  exact q
theorem range_map_get {α β : Type} (xs : List α) (f : α → β) (d : Nat → β) (h : ∀ (i : Nat) (x : α), xs[i]? = some x → d i = f x) : (List.range xs.length).map d = xs.map f := by
  refine List.ext_getElem? fun i => ?_
  by_cases hi : i < xs.length
  · rw [List.getElem?_map, List.getElem?_map, List.getElem?_range hi, List.getElem?_eq_getElem hi]
    exact congrArg some (h i _ (List.getElem?_eq_getElem hi))
  · rw [List.getElem?_eq_none (by simp; omega), List.getElem?_eq_none (by simp; omega)]
/-- over a tuple -/
theorem lcT_map {K : PySem.W.Frag} {a : Addr} {xs : List V} {j : Nat} {te : TE} {vs : List Nat} {σ : L2.St} {H1 : Hp} {D : Addr} {Qd : Hp → Prop} (f : V → V) (ha : H1 a = some (.tup xs)) (hn : xs.length < sizeLine)
    (hs : ∀ (i : Nat) (x : V) (H : Hp) (R : VK), xs[i]? = some x → Same H1 H → (∀ H', Same H H' → R (f x) H') → wipe ((wipe σ vs).set j (some x)) vs = wipe σ vs ∧ te ((wipe σ vs).set j (some x)) H R)
    (hD : H1 D = none) (hd : ∀ H : Hp, Same H1 H → H D = some (.lst (xs.map f)) → Qd H) :
    ∃ W : Nat → Nat → Hp → Prop, (∃ m, W 0 m (upd H1 D (.lst []))) ∧ ∀ i m H, W i m H →
      ((Itt K a).stop i H ∧ Qd H) ∨ ((Itt K a).go i H ∧ ∃ Nx : Hp → Prop, (∀ H', Nx H' → ∃ m', m' < m ∧ W (i + 1) m' H') ∧ ∀ x H', (Itt K a).yld i H x H' → gName j x (wipe σ vs) H' fun σ2 H2 => wipe σ2 vs = wipe σ vs ∧ tYes σ2 H2 fun b H3 =>
        if b = true then te σ2 H3 fun y H4 => ∃ acc, H4 D = some (.lst acc) ∧ acc.length < sizeLine ∧ Nx (upd H4 D (.lst (acc ++ [y]))) else Nx H3) := by
  have e : (List.range xs.length).map (fun i => f (xs.getD i .non)) = xs.map f := range_map_get xs f _ fun i x h => by rw [List.getD_eq_getElem?_getD, h]; rfl
  refine lc_mapW (walk_tup (K := K) (a := a) (xs := xs)) (fun i => f (xs.getD i .non)) hn (fun H s => .inl (.inl (s _ _ ha))) (fun i x H H' R hi s y q => ?_) hD fun H s q => hd H s (by rw [q, e])
  obtain ⟨rfl, hx⟩ := y
  refine hs i x H' R hx s fun H'' s' => ?_
  have := q H'' s'
  rw [show xs.getD i .non = x by rw [List.getD_eq_getElem?_getD, hx]; rfl] at this
  exact this
/-- over a list -/
theorem lcL_map {K : PySem.W.Frag} {a : Addr} {xs : List V} {j : Nat} {te : TE} {vs : List Nat} {σ : L2.St} {H1 : Hp} {D : Addr} {Qd : Hp → Prop} (f : V → V) (ha : H1 a = some (.lst xs)) (hn : xs.length < sizeLine)
    (hs : ∀ (i : Nat) (x : V) (H : Hp) (R : VK), xs[i]? = some x → Same H1 H → (∀ H', Same H H' → R (f x) H') → wipe ((wipe σ vs).set j (some x)) vs = wipe σ vs ∧ te ((wipe σ vs).set j (some x)) H R)
    (hD : H1 D = none) (hd : ∀ H : Hp, Same H1 H → H D = some (.lst (xs.map f)) → Qd H) :
    ∃ W : Nat → Nat → Hp → Prop, (∃ m, W 0 m (upd H1 D (.lst []))) ∧ ∀ i m H, W i m H →
      ((Itl K a).stop i H ∧ Qd H) ∨ ((Itl K a).go i H ∧ ∃ Nx : Hp → Prop, (∀ H', Nx H' → ∃ m', m' < m ∧ W (i + 1) m' H') ∧ ∀ x H', (Itl K a).yld i H x H' → gName j x (wipe σ vs) H' fun σ2 H2 => wipe σ2 vs = wipe σ vs ∧ tYes σ2 H2 fun b H3 =>
        if b = true then te σ2 H3 fun y H4 => ∃ acc, H4 D = some (.lst acc) ∧ acc.length < sizeLine ∧ Nx (upd H4 D (.lst (acc ++ [y]))) else Nx H3) := by
  have e : (List.range xs.length).map (fun i => f (xs.getD i .non)) = xs.map f := range_map_get xs f _ fun i x h => by rw [List.getD_eq_getElem?_getD, h]; rfl
  refine lc_mapW (walk_list (K := K) (a := a) (xs := xs)) (fun i => f (xs.getD i .non)) hn (fun H s => .inl (.inl (s _ _ ha))) (fun i x H H' R hi s y q => ?_) hD fun H s q => hd H s (by rw [q, e])
  obtain ⟨rfl, hx⟩ := y
  refine hs i x H' R hx s fun H'' s' => ?_
  have := q H'' s'
  rw [show xs.getD i .non = x by rw [List.getD_eq_getElem?_getD, hx]; rfl] at this
  exact this
/-- over a range -/
theorem lcR_map {lo : Int} {n : Nat} {j : Nat} {te : TE} {vs : List Nat} {σ : L2.St} {H1 : Hp} {D : Addr} {Qd : Hp → Prop} (f : Nat → V) (hn : n < sizeLine)
    (hs : ∀ (i : Nat) (H : Hp) (R : VK), i < n → Same H1 H → (∀ H', Same H H' → R (f i) H') → wipe ((wipe σ vs).set j (some (.int (lo + i)))) vs = wipe σ vs ∧ te ((wipe σ vs).set j (some (.int (lo + i)))) H R)
    (hD : H1 D = none) (hd : ∀ H : Hp, Same H1 H → H D = some (.lst ((List.range n).map f)) → Qd H) :
    ∃ W : Nat → Nat → Hp → Prop, (∃ m, W 0 m (upd H1 D (.lst []))) ∧ ∀ i m H, W i m H →
      ((Itr lo n).stop i H ∧ Qd H) ∨ ((Itr lo n).go i H ∧ ∃ Nx : Hp → Prop, (∀ H', Nx H' → ∃ m', m' < m ∧ W (i + 1) m' H') ∧ ∀ x H', (Itr lo n).yld i H x H' → gName j x (wipe σ vs) H' fun σ2 H2 => wipe σ2 vs = wipe σ vs ∧ tYes σ2 H2 fun b H3 =>
        if b = true then te σ2 H3 fun y H4 => ∃ acc, H4 D = some (.lst acc) ∧ acc.length < sizeLine ∧ Nx (upd H4 D (.lst (acc ++ [y]))) else Nx H3) := by
  refine lc_mapW (walk_range (lo := lo) (n := n)) f hn (fun H s => True.intro) (fun i x H H' R hi s y q => ?_) hD fun H s q => hd H s q
  obtain ⟨rfl, rfl⟩ := y
  exact hs i H' R hi s q
theorem range_map_zip {α β γ : Type} (xs : List α) (ys : List β) (hl : xs.length = ys.length) (f : α → β → γ) (d : Nat → γ) (h : ∀ (i : Nat) (x : α) (y : β), xs[i]? = some x → ys[i]? = some y → d i = f x y) : (List.range xs.length).map d = List.zipWith f xs ys := by
  refine List.ext_getElem? fun i => ?_
  by_cases hi : i < xs.length
  · have hi2 : i < ys.length := by omega
    rw [List.getElem?_map, List.getElem?_range hi, List.getElem?_zipWith, List.getElem?_eq_getElem hi, List.getElem?_eq_getElem hi2]
    exact congrArg some (h i _ _ (List.getElem?_eq_getElem hi) (List.getElem?_eq_getElem hi2))
  · rw [List.getElem?_eq_none (by simp; omega), List.getElem?_eq_none (by simp; omega)]
/-- over zip -/
theorem lcZ_map {K : PySem.W.Frag} {k k' : Kd} {a b : Addr} {xs ys : List V} {i1 i2 : Nat} {te : TE} {vs : List Nat} {σ : L2.St} {H1 : Hp} {D : Addr} {Qd : Hp → Prop} (f : V → V → V) (hl : xs.length = ys.length) (hn : xs.length < sizeLine)
    (ha : ∀ H, Same H1 H → SqB K k H a xs ∧ SqB K k' H b ys)
    (hs : ∀ (i : Nat) (x y : V) (H : Hp) (R : VK), xs[i]? = some x → ys[i]? = some y → Same H1 H → (∀ H', Same H H' → R (f x y) H') → wipe (((wipe σ vs).set i1 (some x)).set i2 (some y)) vs = wipe σ vs ∧ te (((wipe σ vs).set i1 (some x)).set i2 (some y)) H R)
    (hD : H1 D = none) (hd : ∀ H : Hp, Same H1 H → H D = some (.lst (List.zipWith f xs ys)) → Qd H) :
    ∃ W : Nat → Nat → Hp → Prop, (∃ m, W 0 m (upd H1 D (.lst []))) ∧ ∀ i m H, W i m H →
      ((ItB K k k' a b).stop i H ∧ Qd H) ∨ ((ItB K k k' a b).go i H ∧ ∃ Nx : Hp → Prop, (∀ H', Nx H' → ∃ m', m' < m ∧ W (i + 1) m' H') ∧ ∀ x H', (ItB K k k' a b).yld i H x H' → gTup K 2 (gCons (gName i1) (gCons (gName i2) gNil)) x (wipe σ vs) H' fun σ2 H2 => wipe σ2 vs = wipe σ vs ∧ tYes σ2 H2 fun b H3 =>
        if b = true then te σ2 H3 fun y H4 => ∃ acc, H4 D = some (.lst acc) ∧ acc.length < sizeLine ∧ Nx (upd H4 D (.lst (acc ++ [y]))) else Nx H3) := by
  have e : (List.range xs.length).map (fun i => f (xs.getD i .non) (ys.getD i .non)) = List.zipWith f xs ys := range_map_zip xs ys hl f _ fun i x y h h' => by
    rw [List.getD_eq_getElem?_getD, List.getD_eq_getElem?_getD, h, h']
    rfl
  refine lc_mapW (walkB (K := K) (k := k) (k' := k') (a := a) (b := b) hl) (fun i => f (xs.getD i .non) (ys.getD i .non)) hn ha (fun i v H H' R hi s y q => ?_) hD fun H s q => hd H s (by rw [q, e])
  obtain ⟨T, x, y, rfl, hT, rfl, hx, hy⟩ := y
  have hx : xs[i]? = some x := hx
  have hy : ys[i]? = some y := hy
  have st : Same H (upd H T (.tup [x, y])) := sameNew hT
  refine ⟨T, [x, y], rfl, .inl (.inl upd_same), rfl, x, [y], rfl, y, [], rfl, rfl, hs i x y _ R hx hy (s.trans st) fun H'' s' => ?_⟩
  have := q H'' (st.trans s')
  rw [show xs.getD i .non = x by rw [List.getD_eq_getElem?_getD, hx]; rfl, show ys.getD i .non = y by rw [List.getD_eq_getElem?_getD, hy]; rfl] at this
  exact this
end CK

set_option Elab.async false
set_option linter.all false
set_option maxRecDepth 100000
set_option maxHeartbeats 2000000
namespace CK
open PySem PySem.Spec PyProof.Rows L2
theorem cutV_drop (xs : List V) (k : Nat) : cutV xs (some (k : Int)) none = xs.drop k := by
  unfold cutV
  rw [HT.sIx_nat xs.length 0 k, HT.sIx_none]
  by_cases h : k ≤ xs.length
  · rw [Nat.min_eq_left h, List.take_of_length_le (by rw [List.length_drop]; exact Nat.le_refl _)]
  · rw [Nat.min_eq_right (by omega), List.drop_of_length_le (Nat.le_refl _), List.drop_of_length_le (by omega), List.take_nil]
theorem cutV_take (xs : List V) (k : Nat) : cutV xs none (some (k : Int)) = xs.take k := by
  unfold cutV
  rw [HT.sIx_nat xs.length xs.length k, HT.sIx_none]
  show (xs.drop 0).take (min k xs.length - 0) = xs.take k
  rw [List.drop_zero, Nat.sub_zero]
  by_cases h : k ≤ xs.length
  · rw [Nat.min_eq_left h]
  · rw [Nat.min_eq_right (by omega), List.take_of_length_le (Nat.le_refl _), List.take_of_length_le (by omega)]
section
variable {X : Cx}
/-- a, b = a pair -/
theorem pg_two {K : PySem.W.Frag} {i j : Nat} {x y : Str} {px py pos : Pos} {k : Nat} (hK : X.K = K) (hc : X.calm = true) (hN : X.N.Nodup) (hi : X.N[i]? = some x) (hj : X.N[j]? = some y) (hx : Loc X.env.scope x) (hy : Loc X.env.scope y)
    (f1 : X.fn x = true ∨ X.env.scope.names.lookup x = some .local := by first | exact .inl rfl | exact .inr rfl)
    (f2 : X.fn y = true ∨ X.env.scope.names.lookup y = some .local := by first | exact .inl rfl | exact .inr rfl) :
    PG X (.Tuple [.Name x px, .Name y py] k pos) (gTup K 2 (gCons (gName i) (gCons (gName j) gNil))) := by
  subst hK
  exact pg_tup hc (pgs_cons (pg_name hN hi hx f1) (pgs_cons (pg_name hN hj hy f2) pgs_nil))
/-- t[k:], a tuple: what is behind, wherever it stands -/
theorem sl_drop : SlR X (fun x lo hi H Q => ∃ (a : Addr) (xs : List V) (k : Nat), x = .ref a ∧ lo = some (k : Int) ∧ hi = none ∧ H a = some (.tup xs) ∧ ∀ p H', Same H H' → H' p = some (.tup (xs.drop k)) → Q (.ref p) H') := by
  intro pins s σ H x v vl vu lo hi sl Q I rx hs pl pu h
  obtain ⟨a, xs, k, rfl, rfl, rfl, ha, q⟩ := h
  refine sl_tupA pins s σ H _ v vl vu _ _ sl Q I rx hs pl pu ⟨a, xs, rfl, .inl (.inl ha), fun z => q a H (Same.refl H) ?_, fun _ p hp => q p _ (sameNew hp) (by rw [upd_same, cutV_drop])⟩
  rw [ha, ← cutV_drop xs k]
  unfold cutV
  rw [z.1, z.2, Nat.sub_zero, List.drop_zero, List.take_length]
/-- t[:k] -/
theorem sl_take : SlR X (fun x lo hi H Q => ∃ (a : Addr) (xs : List V) (k : Nat), x = .ref a ∧ lo = none ∧ hi = some (k : Int) ∧ H a = some (.tup xs) ∧ ∀ p H', Same H H' → H' p = some (.tup (xs.take k)) → Q (.ref p) H') := by
  intro pins s σ H x v vl vu lo hi sl Q I rx hs pl pu h
  obtain ⟨a, xs, k, rfl, rfl, rfl, ha, q⟩ := h
  refine sl_tupA pins s σ H _ v vl vu _ _ sl Q I rx hs pl pu ⟨a, xs, rfl, .inl (.inl ha), fun z => q a H (Same.refl H) ?_, fun _ p hp => q p _ (sameNew hp) (by rw [upd_same, cutV_take])⟩
  rw [ha, ← cutV_take xs k]
  unfold cutV
  rw [z.1, z.2, Nat.sub_zero, List.drop_zero, List.take_length]
/-- t + u, tuples -/
theorem op_catS : OpR X (binaryOp .Add) (fun x y H Q => ∃ (a b : Addr) (xs ys : List V), x = .ref a ∧ y = .ref b ∧ H a = some (.tup xs) ∧ H b = some (.tup ys) ∧ xs.length + ys.length ≤ 1000 ∧
    ∀ p H', Same H H' → H' p = some (.tup (xs ++ ys)) → Q (.ref p) H') := by
  intro pins s σ H x y v u Q I rx ry h
  obtain ⟨a, b, xs, ys, rfl, rfl, ha, hb, hl, q⟩ := h
  refine op_catA pins s σ H _ _ v u Q I rx ry ⟨a, b, xs, ys, rfl, rfl, .inl (.inl ha), .inl (.inl hb), Nat.le_of_lt (small1000 hl), fun e => ?_, fun _ e => ?_, fun _ _ p hp => q p _ (sameNew hp) upd_same⟩
  · subst e
    exact q b H (Same.refl H) hb
  · subst e
    exact q a H (Same.refl H) (by rw [List.append_nil]; exact ha)
/-- t[i], xs[i] of what is tracked (no word of the written part, so that it stands in a comprehension) -/
theorem ix_tupH : IxR X (fun x y H Q => ∃ (p : Addr) (xs : List V) (i : Int) (v : V), x = .ref p ∧ y = .int i ∧ H p = some (.tup xs) ∧ atI xs i = some v ∧ Q v H) := by
  intro ve se pins s σ H x y xv yv Q I rx ry h e
  obtain ⟨p, xs, i, v, e1, e2, hp, e3, q⟩ := h
  exact ix_tup ve se pins s σ H x y xv yv Q I rx ry ⟨p, xs, i, v, e1, e2, .inl (.inl hp), e3, q⟩ e
theorem ix_listH : IxR X (fun x y H Q => ∃ (p : Addr) (xs : List V) (i : Int) (v : V), x = .ref p ∧ y = .int i ∧ H p = some (.lst xs) ∧ atI xs i = some v ∧ Q v H) := by
  intro ve se pins s σ H x y xv yv Q I rx ry h e
  obtain ⟨p, xs, i, v, e1, e2, hp, e3, q⟩ := h
  exact ix_list ve se pins s σ H x y xv yv Q I rx ry ⟨p, xs, i, v, e1, e2, .inl (.inl hp), e3, q⟩ e
theorem cr_sumH (hc : X.calm = true) : CallR X (.builtin "sum") (fun vs H Q => ∃ (a : Addr) (ns : List Int), vs = [V.ref a] ∧ H a = some (.lst (ns.map V.int)) ∧ Q (.int ns.sum) H) := by
  intro pins s σ H xs us Q I r h
  obtain ⟨a, ns, e, ha, q⟩ := h
  exact cr_sum hc pins s σ H xs us Q I r ⟨a, ns, e, .inl (.inl ha), q⟩
theorem call_listL : CallR X (.type "list") (fun xs H Q => ∃ (p : Addr) (ys : List V), xs = [.ref p] ∧ H p = some (.lst ys) ∧ ∀ l, H l = none → Q (.ref l) (upd H l (.lst ys))) := by
  intro pins s σ H xs us Q I r h
  obtain ⟨p, ys, e, hp, q⟩ := h
  exact call_list_of pins s σ H xs us Q I r ⟨p, ys, e, .inl (.inl (.inl hp)), q⟩
/-- tuple(xs) of a list: a new tuple -/
theorem call_tupL : CallR X (.type "tuple") (fun xs H Q => ∃ (p : Addr) (ys : List V), xs = [.ref p] ∧ H p = some (.lst ys) ∧ ∀ l H', Same H H' → H' l = some (.tup ys) → Q (.ref l) H') := by
  intro pins s σ H xs us Q I r h
  obtain ⟨p, ys, rfl, hp, q⟩ := h
  exact call_tuple_of pins s σ H _ us Q I r ⟨p, ys, rfl, .inl ⟨.inl (.inl hp), fun l hl => q l _ (sameNew hl) upd_same⟩⟩
end
end CK

set_option Elab.async false
set_option linter.all false
set_option maxRecDepth 100000
set_option maxHeartbeats 2000000
/-! the laws' generator of numbers: a list of three whole numbers -/
namespace CK
open PySem PySem.Spec PyProof.Rows L2
/-- the generator at g, from which n more numbers may be drawn -/
def Gn (n : Nat) (H : Hp) (g : Addr) : Prop := ∃ a b c : Int, H g = some (.lst [.int a, .int b, .int c]) ∧ 0 ≤ a ∧ 0 ≤ b ∧ b < 2 ^ 31 ∧ 0 ≤ c ∧ c + 8 * n ≤ 2 ^ 40
theorem Gn.le {n m : Nat} {H : Hp} {g : Addr} (h : Gn n H g) (hm : m ≤ n) : Gn m H g := by
  obtain ⟨a, b, c, h1, h2, h3, h4, h5, h6⟩ := h
  exact ⟨a, b, c, h1, h2, h3, h4, h5, by omega⟩
theorem Gn.same {n : Nat} {H H' : Hp} {g : Addr} (h : Gn n H g) (s : Same H H') : Gn n H' g := by
  obtain ⟨a, b, c, h1, r⟩ := h
  exact ⟨a, b, c, s _ _ h1, r⟩
theorem Gn.at {n : Nat} {H : Hp} {g : Addr} (h : Gn n H g) : ∃ xs, H g = some (.lst xs) := by
  obtain ⟨a, b, c, h1, r⟩ := h
  exact ⟨_, h1⟩
theorem Gn.ne {n : Nat} {H : Hp} {g D : Addr} (h : Gn n H g) (hD : H D = none) : D ≠ g := fun e => by
  obtain ⟨xs, h1⟩ := h.at
  rw [e, h1] at hD
  cases hD
theorem Gn.upd {n : Nat} {H : Hp} {g D : Addr} {o : HO} (h : Gn n H g) (hD : D ≠ g) : Gn n (upd H D o) g := by
  obtain ⟨a, b, c, h1, r⟩ := h
  exact ⟨a, b, c, by rw [upd_ne (Ne.symm hD)]; exact h1, r⟩
theorem sameX_new {g : Addr} {H : Hp} {D : Addr} {o : HO} (hD : H D = none) : SameX g H (L2.upd H D o) := .of (sameNew hD)
theorem SameX.upd2 {g D : Addr} {H H1 : Hp} {o : HO} (s : SameX g H H1) (hD : H D = none) : SameX g H (L2.upd H1 D o) := fun b z n e => by
  rw [upd_ne (ne_of_none e hD)]
  exact s b z n e
theorem SameX.tup {g a : Addr} {H H' : Hp} {xs : List V} {n : Nat} (s : SameX g H H') (G : Gn n H g) (h : H a = some (.tup xs)) : H' a = some (.tup xs) := s a _ (fun e => by
  obtain ⟨ys, h1⟩ := G.at
  rw [e, h1] at h
  cases h) h
theorem ix_at {n j : Nat} (h : j < n) : ixN n (j : Int) = some j := by
  unfold ixN
  rw [if_pos (by omega), if_pos (by omega)]
  rfl
/-- a comprehension that draws: its numbers stay within most -/
theorem lcD_draw {lo : Int} {g : Addr} {n cnt j : Nat} {most : Int} {te : TE} {vs : List Nat} {σ : L2.St} {H1 : Hp} {D : Addr} {Qd : Hp → Prop} (hc : cnt < sizeLine) (hD : H1 D = none) (hg : Gn (n + cnt) H1 g)
    (hs : ∀ (i : Nat) (H : Hp) (R : VK), i < cnt → SameX g H1 H → Gn (n + (cnt - (i + 1)) + 1) H g → (∀ (r : Int) H', SameX g H H' → Gn (n + (cnt - (i + 1))) H' g → 0 ≤ r → r ≤ most → R (.int r) H') →
      wipe ((wipe σ vs).set j (some (.int (lo + i)))) vs = wipe σ vs ∧ te ((wipe σ vs).set j (some (.int (lo + i)))) H R)
    (hd : ∀ (H : Hp) (ns : List Int), SameX g H1 H → Gn n H g → H D = some (.lst (ns.map V.int)) → ns.length = cnt → (∀ x ∈ ns, 0 ≤ x ∧ x ≤ most) → Qd H) :
    ∃ W : Nat → Nat → Hp → Prop, (∃ m, W 0 m (L2.upd H1 D (.lst []))) ∧ ∀ i m H, W i m H →
      ((Itr lo cnt).stop i H ∧ Qd H) ∨ ((Itr lo cnt).go i H ∧ ∃ Nx : Hp → Prop, (∀ H', Nx H' → ∃ m', m' < m ∧ W (i + 1) m' H') ∧ ∀ x H', (Itr lo cnt).yld i H x H' → gName j x (wipe σ vs) H' fun σ2 H2 => wipe σ2 vs = wipe σ vs ∧ tYes σ2 H2 fun b H3 =>
        if b = true then te σ2 H3 fun y H4 => ∃ acc, H4 D = some (.lst acc) ∧ acc.length < sizeLine ∧ Nx (L2.upd H4 D (.lst (acc ++ [y]))) else Nx H3) := by
  have hDg := hg.ne hD
  refine lc_range (fun i H => SameX g H1 H ∧ Gn (n + (cnt - i)) H g ∧ i ≤ cnt ∧ ∃ ns : List Int, H D = some (.lst (ns.map V.int)) ∧ ns.length = i ∧ ∀ x ∈ ns, 0 ≤ x ∧ x ≤ most)
    ⟨sameX_new hD, hg.upd hDg, Nat.zero_le _, [], upd_same, rfl, fun x h => absurd h List.not_mem_nil⟩ (fun i H hi p => ?_) fun H p => ?_
  · obtain ⟨s, G, _, ns, hL, hl, hb⟩ := p
    have G1 : Gn (n + (cnt - (i + 1)) + 1) H g := by
      have e : n + (cnt - (i + 1)) + 1 = n + (cnt - i) := by omega
      rw [e]
      exact G
    refine hs i H _ hi s G1 fun r H' s' G' h0 h1 => ⟨_, s' D _ hDg hL, by rw [List.length_map]; omega, (s.trans s').upd2 hD, G'.upd hDg, hi, ns ++ [r], ?_, ?_, fun x hx => ?_⟩
    · rw [upd_same, List.map_append]
      rfl
    · rw [List.length_append, hl]
      rfl
    · rcases List.mem_append.mp hx with z | z
      · exact hb x z
      · rw [List.mem_singleton.mp z]
        exact ⟨h0, h1⟩
  · obtain ⟨s, G, _, ns, hL, hl, hb⟩ := p
    rw [Nat.sub_self] at G
    exact hd H ns s G hL hl hb
end CK

set_option Elab.async false
set_option linter.all false
set_option maxRecDepth 100000
set_option maxHeartbeats 2000000
namespace CK
open PySem PySem.Spec PyProof.Rows L2
/-! ### data that are compared -/
def dI (ns : List Int) : PyData := .tuple (ns.map PyData.int)
theorem lay_ints : ∀ ns : List Int, PyData.canLayAll0 (ns.map PyData.int) = true
  | [] => by simp [PyData.canLayAll0]
  | n :: ns => by
    rw [List.map_cons, PyData.canLayAll0, lay_ints ns]
    simp [PyData.canLay0]
theorem deep_ints : ∀ ns : List Int, PyData.depthAll (ns.map PyData.int) = 0
  | [] => by simp [PyData.depthAll]
  | n :: ns => by
    rw [List.map_cons, PyData.depthAll, deep_ints ns]
    simp [PyData.depth]
theorem lay_dI (ns : List Int) : (dI ns).canLay0 = true := by
  unfold dI
  rw [PyData.canLay0]
  exact lay_ints ns
theorem deep_dI (ns : List Int) : (dI ns).depth = 1 := by
  unfold dI
  rw [PyData.depth, deep_ints]
theorem shaped_dI (ns : List Int) : SeqAt.shaped (dI ns) = true := by
  unfold SeqAt.shaped
  rw [lay_dI, deep_dI]
  rfl
theorem lay_forms : ∀ fs : List (List Int), PyData.canLayAll0 (fs.map dI) = true
  | [] => by simp [PyData.canLayAll0]
  | f :: fs => by
    rw [List.map_cons, PyData.canLayAll0, lay_forms fs, lay_dI]
    rfl
theorem deep_forms : ∀ fs : List (List Int), PyData.depthAll (fs.map dI) ≤ 1
  | [] => by simp [PyData.depthAll]
  | f :: fs => by
    have := deep_forms fs
    rw [List.map_cons, PyData.depthAll, deep_dI]
    omega
theorem shaped_forms (fs : List (List Int)) : SeqAt.shaped (.list (fs.map dI)) = true := by
  unfold SeqAt.shaped
  rw [PyData.canLay0, lay_forms, PyData.depth]
  have := deep_forms fs
  rw [decide_eq_true (by omega)]
  rfl
section
variable {K : PySem.W.Frag} {H : Hp}
theorem dpAll_ints : ∀ ns : List Int, DpAll K H (ns.map V.int) (ns.map PyData.int)
  | [] => .nil
  | n :: ns => .cons (.int n) (dpAll_ints ns)
theorem dp_ints {a : Addr} {ns : List Int} (h : H a = some (.tup (ns.map V.int))) : Dp K H (.ref a) (dI ns) := .tup (.inl (.inl h)) (dpAll_ints ns)
end
section
variable {X : Cx}
/-- x != y, of equal data -/
theorem op_neSame (hu : X.A.units + 64 < cLine) : OpR X (compareOp .NotEq) (fun x y H Q => ∃ d, Dp X.K H x d ∧ Dp X.K H y d ∧ SeqAt.shaped d = true ∧ Q (.bl false) H) := by
  intro pins s σ H x y v u Q I rx ry h
  obtain ⟨d, h1, h2, h3, q⟩ := h
  refine op_neD hu pins s σ H x y v u Q I rx ry ⟨d, d, h1, h2, h3, h3, ?_⟩
  rw [SeqAt.eqv_refl d (SeqAt.canLay_of_shaped h3)]
  exact q
end
/-! ### comprehensions that map, by the turn's number -/
theorem lcZ_mapI {K : PySem.W.Frag} {k k' : Kd} {a b : Addr} {xs ys : List V} {i1 i2 : Nat} {te : TE} {vs : List Nat} {σ : L2.St} {H1 : Hp} {D : Addr} {Qd : Hp → Prop} (f : Nat → V) (hl : xs.length = ys.length) (hn : xs.length < sizeLine)
    (ha : ∀ H, Same H1 H → SqB K k H a xs ∧ SqB K k' H b ys)
    (hs : ∀ (i : Nat) (x y : V) (H : Hp) (R : VK), xs[i]? = some x → ys[i]? = some y → Same H1 H → (∀ H', Same H H' → R (f i) H') → wipe (((wipe σ vs).set i1 (some x)).set i2 (some y)) vs = wipe σ vs ∧ te (((wipe σ vs).set i1 (some x)).set i2 (some y)) H R)
    (hD : H1 D = none) (hd : ∀ H : Hp, Same H1 H → H D = some (.lst ((List.range xs.length).map f)) → Qd H) :
    ∃ W : Nat → Nat → Hp → Prop, (∃ m, W 0 m (upd H1 D (.lst []))) ∧ ∀ i m H, W i m H →
      ((ItB K k k' a b).stop i H ∧ Qd H) ∨ ((ItB K k k' a b).go i H ∧ ∃ Nx : Hp → Prop, (∀ H', Nx H' → ∃ m', m' < m ∧ W (i + 1) m' H') ∧ ∀ x H', (ItB K k k' a b).yld i H x H' → gTup K 2 (gCons (gName i1) (gCons (gName i2) gNil)) x (wipe σ vs) H' fun σ2 H2 => wipe σ2 vs = wipe σ vs ∧ tYes σ2 H2 fun b H3 =>
        if b = true then te σ2 H3 fun y H4 => ∃ acc, H4 D = some (.lst acc) ∧ acc.length < sizeLine ∧ Nx (upd H4 D (.lst (acc ++ [y]))) else Nx H3) := by
  refine lc_mapW (walkB (K := K) (k := k) (k' := k') (a := a) (b := b) hl) f hn ha (fun i v H H' R hi s y q => ?_) hD hd
  obtain ⟨T, x, y, rfl, hT, rfl, hx, hy⟩ := y
  have hx : xs[i]? = some x := hx
  have hy : ys[i]? = some y := hy
  have st : Same H (upd H T (.tup [x, y])) := sameNew hT
  exact ⟨T, [x, y], rfl, .inl (.inl upd_same), rfl, x, [y], rfl, y, [], rfl, rfl, hs i x y _ R hx hy (s.trans st) fun H'' s' => q H'' (st.trans s')⟩
theorem lcL_mapI {K : PySem.W.Frag} {a : Addr} {xs : List V} {j : Nat} {te : TE} {vs : List Nat} {σ : L2.St} {H1 : Hp} {D : Addr} {Qd : Hp → Prop} (f : Nat → V) (ha : H1 a = some (.lst xs)) (hn : xs.length < sizeLine)
    (hs : ∀ (i : Nat) (x : V) (H : Hp) (R : VK), xs[i]? = some x → Same H1 H → (∀ H', Same H H' → R (f i) H') → wipe ((wipe σ vs).set j (some x)) vs = wipe σ vs ∧ te ((wipe σ vs).set j (some x)) H R)
    (hD : H1 D = none) (hd : ∀ H : Hp, Same H1 H → H D = some (.lst ((List.range xs.length).map f)) → Qd H) :
    ∃ W : Nat → Nat → Hp → Prop, (∃ m, W 0 m (upd H1 D (.lst []))) ∧ ∀ i m H, W i m H →
      ((Itl K a).stop i H ∧ Qd H) ∨ ((Itl K a).go i H ∧ ∃ Nx : Hp → Prop, (∀ H', Nx H' → ∃ m', m' < m ∧ W (i + 1) m' H') ∧ ∀ x H', (Itl K a).yld i H x H' → gName j x (wipe σ vs) H' fun σ2 H2 => wipe σ2 vs = wipe σ vs ∧ tYes σ2 H2 fun b H3 =>
        if b = true then te σ2 H3 fun y H4 => ∃ acc, H4 D = some (.lst acc) ∧ acc.length < sizeLine ∧ Nx (upd H4 D (.lst (acc ++ [y]))) else Nx H3) := by
  refine lc_mapW (walk_list (K := K) (a := a) (xs := xs)) f hn (fun H s => .inl (.inl (s _ _ ha))) (fun i x H H' R hi s y q => ?_) hD hd
  obtain ⟨rfl, hx⟩ := y
  exact hs i x H' R hx s q
end CK

set_option Elab.async false
set_option linter.all false
set_option maxRecDepth 100000
set_option maxHeartbeats 2000000
/-! own classes: their facts, their methods' promises by their bodies -/
namespace CK
open PySem PySem.Spec PyProof.Rows L2
/-- a method's def as it stands behind the top -/
structure MetF (K : PySem.W.Frag) (C : Addr) (m q : Str) (st : Stmt) (ps : List Str) : Prop where
  ex : ∃ (f : Addr) (fd : FuncData), C8.Fun K m q st f fd ∧ Meth K C m f ∧ Binds K fd ps []
/-- a class as it stands -/
structure ClF (K : PySem.W.Frag) (mg : Str → Option Value) (x : Str) (C : Addr) : Prop where
  mgC : mg x = some (.ref C)
  makes : PySem.W.makesIn K C = true
  kp : PySem.W.keepIn K (.ref C) = true
  ins : C8.InsC K C
theorem metF_mk {K : PySem.W.Frag} {mg : Str → Option Value} {x : Str} {C : Addr} (_ : ClF K mg x C) (m q : Str) (st : Stmt) (ps : List Str) {f : Addr} {od an : Option Addr} {oc kV dc pm cd ct : Value} {sl : Array (Option Value)}
    (a : PySem.W.findIn K (.ref C) m = some (some (.ref f))) (i : PySem.W.isFn K (.ref f) = true)
    (l : K.lookup f = some ⟨oc, od, .func (PySem.W.fnOf m q (C8.fnArgs st) (C8.fnBody st) (C8.fnScope st) .none kV dc pm an cd ct), sl⟩)
    (c : PySem.W.codeIn K cd q = true) (k : PySem.W.keepIn K (.ref f) = true)
    (hb : ∀ (kV doc pm : Value) (an : Option Addr) (cdv ct : Value) (us : List Value), us.length = ps.length →
      bindArgs (PySem.W.fnOf m q (C8.fnArgs st) (C8.fnBody st) (C8.fnScope st) .none kV doc pm an cdv ct) ⟨us, []⟩ = pure (ps.zip us)) : MetF K C m q st ps :=
  ⟨f, _, ⟨oc, od, .none, kV, dc, pm, an, cd, ct, sl, rfl, l, c⟩, ⟨a, i, k⟩, C8.Fun.binds ⟨oc, od, .none, kV, dc, pm, an, cd, ct, sl, rfl, l, c⟩ rfl hb⟩
theorem clF_mk {K : PySem.W.Frag} {h : Heap} {mg : Str → Option Value} {x : Str} {C : Addr} (X : K.In h) (G : h.Ns mainGlobals mg)
    (a : PySem.W.nsIn K mainGlobals x = some (some (.ref C))) (pg : PySem.W.plainGet K C Str.empty = true) (hd : PySem.W.hasDictIn K C = true) (po : PySem.W.plainOver K C = true)
    (sa : PySem.W.findIn K (.ref C) "__setattr__" = some (some (.builtin "object.__setattr__"))) (mk : PySem.W.makesIn K C = true) (kp : PySem.W.keepIn K (.ref C) = true)
    (ha : PySem.W.findIn K (.ref C) "__class__" = some (some (.builtin "object.__class__"))) (hn : PySem.W.specialIn K (.builtin "object.__class__") "__get__" = some (some (.builtin "getset_descriptor.__get__")))
    (htk : PySem.W.takesIn K (.builtin "object.__class__") = some true) (hm : PySem.W.mroIn K C (.type "object") = some true) : ClF K mg x C :=
  ⟨PySem.W.mg_of X G a, mk, kp, ⟨⟨pg, hd, po, sa⟩, ha, hn, htk, hm, if_pos (beq_self_eq_true _)⟩⟩
theorem with_cls {K : PySem.W.Frag} {h : Heap} {mg : Str → Option Value} (_ : K.In h) (x : Str) {C : Addr} {R : Prop} (d : ClF K mg x C) (r : ClF K mg x C → R) : R := r d
theorem with_met {K : PySem.W.Frag} {mg : Str → Option Value} {x : Str} {C : Addr} (_ : ClF K mg x C) (m q : Str) (st : Stmt) (ps : List Str) {R : Prop} (d : MetF K C m q st ps) (r : MetF K C m q st ps → R) : R := r d
section
variable {P : Program} {w : World} {K : PySem.W.Frag} {mg : Str → Option Value} {base : Heap} {x : Str} {C : Addr}
theorem metF {m q : Str} {st : Stmt} {N ps : List Str} {k : Nat} {sp : Sp} (c : ClF K mg x C) (D : MetF K C m q st ps) (S : FnScope N ps (C8.fnScope st))
    (len : ∀ vs H Q E, sp vs H Q E → vs.length = ps.length)
    (hbody : ∀ (f : Addr) (cdv : Value) (A : Around) (outer : List Env) (s : Shared) (H : Hp) (vs : List V) (Q : VK) (E : XK), Room k (A.deeper (envOfC q (C8.fnScope st) s.heap.objs.size f cdv)) → sp vs H Q E →
      ∃ t, PSs (cxOf C8.CX0 P w K mg base N q (C8.fnScope st) f cdv A outer s H E).nox (C8.fnBody st) t ∧ t { nx := fun _ H' => Q .non H', rt := Q } (start N vs) H) : C8.Met P w K mg base (k + 1) C m sp [] := by
  obtain ⟨f, fd, F, me, b⟩ := D.ex
  exact C8.met0 c.ins.cl me F b S len (hbody f)
theorem makF {q : Str} {st : Stmt} {N ps : List Str} {k : Nat} {sp : Sp} (c : ClF K mg x C) (D : MetF K C "__init__" q st ps) (S : FnScope N ps (C8.fnScope st))
    (len : ∀ vs H Q E, sp vs H Q E → vs.length = ps.length)
    (hbody : ∀ (f : Addr) (cdv : Value) (A : Around) (outer : List Env) (s : Shared) (H : Hp) (vs : List V) (Q : VK) (E : XK), Room k (A.deeper (envOfC q (C8.fnScope st) s.heap.objs.size f cdv)) → sp vs H Q E →
      ∃ t, PSs (cxOf C8.CX0 P w K mg base N q (C8.fnScope st) f cdv A outer s H E).nox (C8.fnBody st) t ∧ t { nx := fun _ H' => Q .non H', rt := Q } (start N vs) H) : C8.Mak P w K mg base (k + 1) x C sp [] := by
  obtain ⟨f, fd, F, me, b⟩ := D.ex
  exact C8.mak0 ⟨c.makes, me.at_, me.fn, c.kp⟩ c.mgC F b .nil S len (hbody f)
end
end CK
namespace CK
open PySem L2
theorem noA {K : PySem.W.Frag} {mg : Str → Option Value} {x : Str} {C : Addr} (_ : ClF K mg x C) (f : Str) (h : PySem.W.findIn K (.ref C) f = some none) : NoAttr K C f := h
end CK

set_option Elab.async false
set_option linter.all false
set_option maxRecDepth 100000
set_option maxHeartbeats 2000000
/-! texts by their code points -/
namespace CK
open PySem PySem.Spec PyProof.Rows L2 SX
theorem rev_S (z : List Nat) : (⟨((Builtin.Str.strSliceIndices none none (-1) (S z).length).filterMap ((S z).cps[·]?)).toArray⟩ : Str) = S z.reverse := by
  refine TL.ext_tl ?_
  show ((Builtin.Str.strSliceIndices none none (-1) (S z).length).filterMap ((S z).cps[·]?)).toArray.toList = z.reverse
  rw [List.toList_toArray, S_len, picked_rev, filterMap_get, List.map_map]
  · refine List.ext_getElem (by simp) fun i h1 h2 => ?_
    have hi : i < z.length := by simpa using h1
    rw [List.getElem_map, List.getElem_range, List.getElem_reverse]
    show (S z).cps.getD (z.length - 1 - i) 0 = _
    have : z.length - 1 - i < z.length := by omega
    simp [Array.getD, S, this]
  · intro i hi
    obtain ⟨k, hk, rfl⟩ := List.mem_map.mp hi
    have := List.mem_range.mp hk
    show z.length - 1 - k < z.length
    omega
section
variable {X : Cx}
/-- s[::-1] -/
def tRevS (te : TE) : TE := fun σ H Q => te σ H fun x H1 => ∃ z : List Nat, x = .str (S z) ∧ z.length ≤ sizeLine ∧ Q (.str (S z.reverse)) H1
theorem pe_revS {e : Expr} {te : TE} {k : Nat} {p1 p2 p3 pos : Pos} (he : PE X e te) : PE X (.Subscript e (.Slice none none (some (.UnaryOp .USub (.Constant (.int 1) k p1) p2)) p3) pos) (tRevS te) := by
  refine ⟨fun pins s σ H Q I h => ?_⟩
  refine Subscript_ (thn (he.run pins s σ H _ I h) fun v s1 ⟨x, H1, I1, r1, q1⟩ => ?_)
  obtain ⟨z, ex, hz, q⟩ := q1
  subst ex
  obtain ⟨t, rfl⟩ := r1
  have hst : PO X (some (.UnaryOp .USub (.Constant (.int 1) k p1) p2)) (tPart (tUn (rU fun i => .int (-i)) (tC (.int 1)))) := po_some (pe_un un_neg pe_int)
  refine wpAny_Slice (thn (po_none.run pins s1 σ H1 (fun o H2 => o = none ∧ H2 = H1) I1 ⟨rfl, rfl⟩) fun vl s2 ⟨l, H2, I2, pl, el, e2⟩ => ?_)
  subst el e2
  refine thn (po_none.run pins s2 σ H2 (fun o H3 => o = none ∧ H3 = H2) I2 ⟨rfl, rfl⟩) fun vu s3 ⟨u, H3, I3, pu, eu, e3⟩ => ?_
  subst eu e3
  refine thn (hst.run pins s3 σ H3 (fun o H4 => o = some (-1) ∧ H4 = H3) I3 ⟨1, rfl, -1, rfl, rfl, rfl⟩) fun vs s4 ⟨o, H4, I4, ps, eo, e4⟩ => ?_
  subst eo e4
  have I5 : Inv X pins σ H4 { s4 with heap := s4.heap.push { cls := .type "slice", data := .fields #[vl, vu, vs] } } := I4.kept (t' := s4.toks) fun b ob q => Heap.get?_push_of_some _ q
  show wpAny (model X.prog X.w) X.A (subscriptTail e (.Slice none none (some (.UnaryOp .USub (.Constant (.int 1) k p1) p2)) p3) (.str (S z) t) (.ref s4.heap.objs.size)) (EP X pins σ Q) X.xe { s4 with heap := s4.heap.push { cls := .type "slice", data := .fields #[vl, vu, vs] } }
  refine tail_any (ops := [.str (S z) t, .ref s4.heap.objs.size]) (typeIs_str _ _ _) F.slot_str_getitem.lookup ?_ (by with_unfolding_all rfl)
  obtain ⟨l, rfl, el⟩ := IsPart.raw pl
  obtain ⟨u, rfl, eu⟩ := IsPart.raw pu
  obtain ⟨st, rfl, es⟩ := IsPart.raw ps
  refine wpAny_getItem_str_slice (l := l) (u := u) (st := st) ⟨_, Heap.get?_push_size _ rfl, rfl, rfl⟩ (by rw [es]; decide) ?_
  unfold sliceMade slicePicked
  rw [es, el, eu]
  have hr := rev_S z
  show Made.post (.str ⟨((Builtin.Str.strSliceIndices none none (-1) (S z).length).filterMap ((S z).cps[·]?)).toArray⟩) _ _
  rw [hr]
  exact ⟨by rw [S_len, List.length_reverse]; exact hz, .str _, H4, I5.tok _, ⟨_, rfl⟩, q⟩
/-- s * n -/
theorem foldl_arr {α : Type} : ∀ (n : Nat) (w : Array α) (acc : Array α), ((List.replicate n w).foldl (fun a b => a ++ b) acc).toList = acc.toList ++ (List.replicate n w.toList).flatten
  | 0, _, _ => by simp
  | n + 1, w, acc => by
    rw [List.replicate_succ, List.foldl_cons, foldl_arr n w (acc ++ w), List.replicate_succ, List.flatten_cons, Array.toList_append, List.append_assoc]
theorem op_repS : OpR X (binaryOp .Mult) (fun x y H Q => ∃ (z : List Nat) (n : Nat), x = .str (S z) ∧ y = .int n ∧ n ≤ 1000 ∧ z.length ≤ 1000 ∧ Q (.str (S (List.replicate n z).flatten)) H) := by
  intro pins s σ H x y v u Q I rx ry h
  obtain ⟨z, n, rfl, rfl, hn, hz, q⟩ := h
  obtain ⟨t, rfl⟩ := rx
  obtain ⟨t', rfl⟩ := ry
  have hl : (List.replicate n z).flatten.length = n * z.length := by simp
  have hm : n * z.length ≤ 1000 * 1000 := Nat.mul_le_mul hn hz
  refine P.mul_str (by simp; omega) (fun h1 h2 => ?_) (fun h1 h2 => ?_) ?_
  · rw [S_len]
    have hn0 : (0 : Int) < n := by omega
    have h3 : (1000 : Int) ≤ (2 ^ 63 - 1) / (n : Int) := by
      refine (Int.le_ediv_iff_mul_le hn0).mpr ?_
      have : (1000 : Int) * n ≤ 1000 * 1000 := Int.mul_le_mul_of_nonneg_left (by omega) (by decide)
      omega
    omega
  · rw [S_len, Int.toNat_natCast, Nat.mul_comm]
    have : n * z.length ≤ sizeLine := by rw [sizeLine_eq]; omega
    unfold Builtin.Str.tooLong
    simp
    omega
  · by_cases h1 : (n : Int) < 1
    · rw [if_pos h1]
      have e : n = 0 := by omega
      subst e
      exact ⟨by decide, .str _, H, I.tok _, ⟨_, rfl⟩, q⟩
    · rw [if_neg h1]
      by_cases h2 : ((n : Int) == 1 || (S z).length == 0) = true
      · rw [if_pos h2]
        have e : (List.replicate n z).flatten = z := by
          rw [Bool.or_eq_true, beq_iff_eq, beq_iff_eq, S_len] at h2
          rcases h2 with h2 | h2
          · have : n = 1 := by omega
            subst this
            simp
          · rw [List.length_eq_zero_iff.mp h2]
            simp
        rw [e] at q
        exact ⟨.str _, H, I, ⟨_, rfl⟩, q⟩
      · rw [if_neg h2]
        have e : (⟨(List.replicate (n : Int).toNat (S z).cps).foldl (· ++ ·) #[]⟩ : Str) = S (List.replicate n z).flatten := by
          refine TL.ext_tl ?_
          show ((List.replicate (n : Int).toNat (S z).cps).foldl (· ++ ·) #[]).toList = _
          rw [Int.toNat_natCast, foldl_arr]
          rfl
        rw [e]
        exact ⟨by rw [S_len, hl, sizeLine_eq]; omega, .str _, H, I.tok _, ⟨_, rfl⟩, q⟩
/-- a % b, a // b of natural numbers -/
theorem fmodN (k n : Nat) : Int.fmod (k : Int) (n : Int) = ((k % n : Nat) : Int) := by
  rw [Int.fmod_eq_emod_of_nonneg _ (by omega)]
  rfl
theorem op_modZ : OpR X (binaryOp .Mod) (fun x y H Q => ∃ (k n : Nat), x = .int k ∧ y = .int n ∧ n ≠ 0 ∧ Q (.int ((k % n : Nat) : Int)) H) := by
  intro pins s σ H x y v u Q I rx ry h
  obtain ⟨k, n, e1, e2, h0, q⟩ := h
  refine op_modN pins s σ H x y v u Q I rx ry ⟨_, _, e1, e2, by omega, ?_⟩
  rw [← fmodN] at q
  exact q
theorem op_fdivZ : OpR X (binaryOp .FloorDiv) (fun x y H Q => ∃ (k n : Nat), x = .int k ∧ y = .int n ∧ n ≠ 0 ∧ n < 2 ^ 29 ∧ Q (.int ((k / n : Nat) : Int)) H) := by
  intro pins s σ H x y v u Q I rx ry h
  obtain ⟨k, n, e1, e2, h0, h1, q⟩ := h
  refine op_fdivN pins s σ H x y v u Q I rx ry ⟨_, _, e1, e2, ⟨by omega, by omega⟩, ?_⟩
  have : Int.fdiv (k : Int) (n : Int) = ((k / n : Nat) : Int) := by
    rw [Int.fdiv_eq_ediv_of_nonneg _ (by omega)]
    rfl
  rw [← this] at q
  exact q
theorem op_mulZ : OpR X (binaryOp .Mult) (fun x y H Q => ∃ (k n : Nat), x = .int k ∧ y = .int n ∧ k < 2 ^ 1000 ∧ n < 2 ^ 1000 ∧ Q (.int ((k * n : Nat) : Int)) H) := by
  intro pins s σ H x y v u Q I rx ry h
  obtain ⟨k, n, e1, e2, h0, h1, q⟩ := h
  refine op_mulW pins s σ H x y v u Q I rx ry ⟨_, _, e1, e2, wide_mul (a := 1000) (b := 1000) h0 h1 (by decide) (by decide) (by decide), ?_⟩
  rw [Int.natCast_mul] at q
  exact q
/-- len of a list that is tracked (it may stand in a comprehension) -/
theorem call_lenH : CallR X (.builtin "len") (fun xs H Q => ∃ (p : Addr) (ys : List V), xs = [.ref p] ∧ H p = some (.lst ys) ∧ Q (.int (ys.length : Nat)) H) := by
  intro pins s σ H xs us Q I r h
  obtain ⟨p, ys, e, hp, q⟩ := h
  exact call_len_seq pins s σ H xs us Q I r ⟨p, ys, e, .inl (.inl (.inl hp)), q⟩
end
end CK

set_option Elab.async false
set_option linter.all false
set_option maxRecDepth 100000
set_option maxHeartbeats 2000000
/-! any of a tuple of numbers -/
namespace CK
open PySem PySem.Spec PyProof.Rows L2 SX
theorem plain_ints : ∀ ns : List Int, PyData.plainAll (ns.map PyData.int) = true
  | [] => by simp [PyData.plainAll]
  | n :: ns => by
    rw [List.map_cons, PyData.plainAll, plain_ints ns]
    simp [PyData.plain]
theorem any_ints (ns : List Nat) : ((ns.map fun n : Nat => ((n : Nat) : Int)).map PyData.int).any PyData.truthy = ns.any fun x => decide (x ≠ 0) := by
  induction ns with
  | nil => rfl
  | cons n ns ih =>
    rw [List.map_cons, List.map_cons, List.any_cons, List.any_cons, ih]
    congr 1
    show ((n : Int) != 0) = decide (n ≠ 0)
    by_cases h : n = 0
    · subst h
      rfl
    · rw [decide_eq_true h, bne_iff_ne]
      omega
section
variable {X : Cx}
theorem cr_anyN (hc : X.calm = true) : CallR X (.builtin "any") (fun vs H Q => ∃ (a : Addr) (ns : List Nat), vs = [V.ref a] ∧ H a = some (.tup (ns.map fun n : Nat => V.int (n : Nat))) ∧ Q (.bl (ns.any fun x => decide (x ≠ 0))) H) := by
  intro pins s σ H vs us Q I r h
  obtain ⟨a, ns, rfl, ha, q⟩ := h
  obtain ⟨its, rv, hT, _⟩ := I.tuple (.inl (.inl ha))
  rw [Vals.ref1 r]
  have e : (ns.map fun n : Nat => V.int (n : Nat)) = (ns.map fun n : Nat => ((n : Nat) : Int)).map V.int := by
    rw [List.map_map]
    rfl
  rw [e] at rv
  obtain ⟨as, hr⟩ := Dp.readsAll I _ _ its (dpAll_ints _) rv
  refine PySem.W.any_tuple_data (I.ok.hd hc) hT (by rw [List.toList_toArray]; exact hr) (plain_ints _) (fun x hx => ?_) fun h' tk hk => ?_
  · obtain ⟨i, _, rfl⟩ := List.mem_map.mp hx
    trivial
  · rw [any_ints]
    exact ⟨.bl _, H, I.kept (t' := tk) hk, rfl, q⟩
end
end CK
namespace CK
open PySem PySem.Spec PyProof.Rows L2 SX
section
variable {X : Cx}
/-- a whole number and a Boolean -/
theorem op_addB : OpR X (binaryOp .Add) (fun x y H Q => ∃ (i : Int) (b : Bool), x = .int i ∧ y = .bl b ∧ Q (.int (i + if b = true then (1 : Int) else 0)) H) := by
  intro pins s σ H x y v u Q I rx ry h
  obtain ⟨i, b, rfl, rfl, q⟩ := h
  obtain ⟨t, rfl⟩ := rx
  obtain rfl : u = Value.bool b := ry
  exact add_int_bool ⟨.int _, H, I.tok _, ⟨_, rfl⟩, q⟩
end
end CK
namespace CK
open PySem PySem.Spec PyProof.Rows L2 SX
theorem vals_of_get : ∀ (vs : List V) (us : List Value), us.length = vs.length → (∀ (j : Nat) (v : V) (u : Value), vs[j]? = some v → us[j]? = some u → RelV v u) → Vals vs us
  | [], [], _, _ => .nil
  | [], _ :: _, h, _ => by simp at h
  | _ :: _, [], h, _ => by simp at h
  | v :: vs, u :: us, h, g => .cons (g 0 v u rfl rfl) (vals_of_get vs us (by simpa using h) fun j a b ha hb => g (j + 1) a b (by simpa using ha) (by simpa using hb))
section
variable {X : Cx}
/-- list(text): its letters -/
theorem call_listS (hc : X.calm = true) : CallR X (.type "list") (fun xs H Q => ∃ z : List Nat, xs = [.str (S z)] ∧ z.length ≤ 1000000 ∧ ∀ l, H l = none → Q (.ref l) (upd H l (.lst (z.map fun c => V.str (S [c]))))) := by
  intro pins s σ H xs us Q I r h
  obtain ⟨z, rfl, hz, q⟩ := h
  obtain ⟨u, rfl, rx⟩ := vals1 r
  obtain ⟨t, rfl⟩ := rx
  have sz : (S z).cps.size = z.length := S_len z
  refine call_list_str (I.ok.hd hc) (S z) t (fun h' tk acc' c' hk hS hacc => ?_) (by rw [sz, sizeLine_eq]; omega)
  refine ⟨.ref s.heap.objs.size, upd H s.heap.objs.size (.lst (z.map fun c => V.str (S [c]))), I.laid (t' := tk) hk (Nat.le_refl _) ?_, rfl, q _ (I.hok.fresh (Nat.le_refl _))⟩
  refine ⟨by rw [List.length_map, sizeLine_eq]; omega, acc'.toList, c', vals_of_get _ _ (by rw [List.length_map, Array.length_toList, hacc.1, sz]) fun j v u hv hu => ?_, by simpa using hS⟩
  obtain ⟨c, tt, hc', rfl⟩ := hacc.2 j u (by simpa using hu)
  rw [List.getElem?_map] at hv
  have e : z[j]? = some c := by
    have : (S z).cps[j]? = some c := hc'
    simpa [S] using this
  rw [e] at hv
  cases hv
  exact ⟨tt, rfl⟩
end
end CK
namespace CK
open PySem PySem.Spec PyProof.Rows L2 SX
section
variable {X : Cx} {o e : Expr} {es : List Expr} {to : TE} {t : TA} {name : Str} {apos cpos : Pos} {T id : String} {r : V → List V → Hp → VK → Prop}
/-- a built-in's method, where the written part is told apart (it may stand in a comprehension) -/
theorem pe_bmB {K : PySem.W.Frag} (hK : X.K = K) (pa : PlainAttrs T) (slot : Slot T name id) (hty : typeOf (.builtin id) = pure (.type "method_descriptor")) (hm : MtR X id r) (ho : PE X o to) (ha : PA X (e :: es) t)
    (hb : attributeBase o name X.env (eval o X.env) = eval o X.env := by rfl)
    (hf : ((backTo cpos (starEach (e :: es) X.env)).all (fun x => !x.1) && (backToKw cpos (keywordEach [] X.env)).all (fun x => x.1.isSome) && decide ((e :: es).length + ([] : List Keyword).length + (if ([] : List Keyword).isEmpty then 0 else 1) < 30)) = true := by rfl)
    (hl : (apos.endLine == cpos.line) = true := by rfl) (hs : starEach (e :: es) X.env = (false, eval e X.env) :: starEach es X.env := by rfl) (hp : (backTo cpos (starEach es X.env)).any (·.1) = false := by rfl) :
    PE X (.Call (.Attribute o name apos) (e :: es) [] cpos) (tBM K T r to t) := by
  subst hK
  exact pe_bm pa slot hty hm ho ha hb hf hl hs hp
end
end CK

set_option Elab.async false
set_option linter.all false
set_option maxRecDepth 100000
set_option maxHeartbeats 2000000
/-! sum of a tuple of numbers -/
namespace CK
open PySem PySem.Spec PyProof.Rows L2 SX
section
variable {prog : Program} {w : World} {A : Around} {E : Value → Shared → Prop} {s : Shared} {l : Addr} {xs : Array (Int × Tok)}
theorem sum_tupG {Q : Value → Shared → Prop} (hh : A.handled = none) (hl : s.heap.IsTuple l (intItems xs))
    (h : ∀ h' tk t', (∀ b o, s.heap.get? b = some o → h'.get? b = some o) → Q (.int (preSum (numAt xs) xs.size) t') { s with heap := h', toks := tk }) :
    wpAny (model prog w) A (call (.builtin "sum") [.ref l]) Q E s := by
  have hlt : l < s.heap.objs.size := by obtain ⟨_, e, _⟩ := hl; exact Heap.lt_size e
  refine call_sum_walkG (wpAny_pyIter_tuple hl ?_)
  refine ⟨_, _, _, _, _, _, numAt xs, rfl, Walks.tuple (A := A.in1) hh _ l (Nat.ne_of_lt hlt) (intItems xs), ⟨⟨_, Heap.get?_push_size _ rfl, rfl, rfl⟩, hl.push _⟩, fun b hb => ?_, (fun _ _ => intItems_at), fun h' tk t' hk => ?_⟩
  · show b < (s.heap.push _).objs.size
    rw [Heap.size_push]
    rcases List.mem_cons.mp hb with rfl | hb
    · exact Nat.lt_succ_self _
    · rcases List.mem_cons.mp hb with rfl | hb
      · exact Nat.lt_succ_of_lt hlt
      · cases hb
  · have := h h' tk t' fun b o e => by
      refine hk b o (fun hm => ?_) (Heap.get?_push_of_some _ e)
      have := List.mem_singleton.mp hm
      have hb := Heap.lt_size e
      rw [this] at hb
      exact absurd hb (Nat.lt_irrefl _)
    simpa [intItems] using this
end
section
variable {X : Cx}
theorem cr_sumT (hc : X.calm = true) : CallR X (.builtin "sum") (fun vs H Q => ∃ (a : Addr) (ns : List Int), vs = [V.ref a] ∧ H a = some (.tup (ns.map V.int)) ∧ Q (.int ns.sum) H) := by
  intro pins s σ H vs us Q I r h
  obtain ⟨a, ns, rfl, ha, q⟩ := h
  obtain ⟨its, rv, hl, _⟩ := I.tuple (.inl (.inl ha))
  rw [Vals.ref1 r]
  have hi := rv.ints
  obtain ⟨xs, e⟩ := hi.allInts.items
  have hn : numsOf (intItems xs).toList = ns := by rw [← e]; exact hi.numsOf
  rw [nums_intItems] at hn
  have hl' : s.heap.IsTuple a (intItems xs) := by rw [← e]; exact hl
  refine sum_tupG (I.ok.hd hc) hl' fun h' tk t' hk => ?_
  have es : preSum (numAt xs) xs.size = ns.sum := by rw [preSum_eq, List.take_of_length_le (by simp), hn]
  rw [es]
  exact ⟨.int _, H, I.kept (t' := tk) hk, ⟨_, rfl⟩, q⟩
end
end CK

set_option Elab.async false
set_option linter.all false
set_option maxRecDepth 100000
set_option maxHeartbeats 2000000
/-! a tuple of one item, k times, k of at least -1 -/
namespace CK
open PySem PySem.Spec PyProof.Rows L2 SX
theorem mulM1 (l : Addr) (v : Value) (n : Nat) (dd : Option Addr) (sl : Array (Option Value)) (u : Tok) :
    Meets (Builtin.«tuple.__mul__» ⟨[.ref l, .int (-1) u], []⟩) (fun _ R s =>
      s.heap.get? l = some { cls := .type "tuple", dict := dd, data := .seq #[v] n, slots := sl } ∧
      R (.ok (.ret (Value.ref s.heap.objs.size))) { s with heap := s.heap.push { cls := Value.type "tuple", data := Data.seq #[] } }) := by
  refine Meets.of_wp fun prog w A R s h => ?_
  obtain ⟨hq, g, d, tk, o2⟩ := s
  obtain ⟨hl, h⟩ := h
  have f1 := AutoSeq1.idx_int
  wp_walk using wpAny_loadPart' hl
  exact ⟨_, rfl, h⟩
section
variable {X : Cx}
theorem op_repOneZ : OpR X (binaryOp .Mult) (fun x y H Q => ∃ (l : Addr) (k : Int) (v : V), x = .ref l ∧ y = .int k ∧ H l = some (.tup [v]) ∧ -1 ≤ k ∧ k ≤ 1000 ∧
    ∀ p H', Same H H' → H' p = some (.tup (List.replicate k.toNat v)) → Q (.ref p) H') := by
  intro pins s σ H x y xv yv Q I rx ry h
  obtain ⟨l, k, v, rfl, rfl, hl, h0, h1, q⟩ := h
  by_cases hk : k = -1
  · subst hk
    cases rx
    obtain ⟨t, rfl⟩ := ry
    obtain ⟨zs, r, ⟨⟨cl, dd, da, sl⟩, ho, hc, n, hd⟩, hs⟩ := I.tuple (.inl (.inl hl) : SqT X.K H l [v])
    simp only at hc hd
    subst hc hd
    cases r with
    | cons r1 r2 =>
    cases r2
    rename_i u
    refine wpAny_binaryOp_repeat_ref (T := "tuple") (U := "int") (by decide) ⟨_, ho, rfl⟩ (fun s' => typeIs_int s' (-1) t) mulFill F.fills_int_mul F.slot_int_rmul mulSeq F.slot_int_index.lookup
      (call_meets F.slot_int_rmul (typeIs_int s (-1) t) F.entry_int_rmul (F.args_int_rmul_2 _ _) (rmulNo (-1) t l _ n dd sl)
        ⟨ho, rfl, ⟨_, ho, rfl⟩, call_meets F.slot_tuple_mul ⟨_, ho, rfl⟩ F.entry_tuple_mul (F.args_tuple_mul_2 _ _) (mulM1 l _ n dd sl t) ⟨ho, ?_⟩⟩)
    have hn : H s.heap.objs.size = none := I.hok.fresh (Nat.le_refl _)
    refine ⟨.ref s.heap.objs.size, _, I.laid (t' := s.toks) (o := .tup []) (fun b ob q => Heap.get?_push_of_some _ q) (Nat.le_refl _) ?_, rfl, q _ _ (sameNew hn) upd_same⟩
    exact ⟨Nat.zero_le _, [], .nil, IsTup.new _ _⟩
  · exact op_repOne pins s σ H _ _ xv yv Q I rx ry ⟨l, k, v, rfl, rfl, hl, by omega, h1, q⟩
end
end CK

set_option Elab.async false
set_option linter.all false
set_option maxRecDepth 100000
set_option maxHeartbeats 2000000
/-! == of two objects of an own class, by its __eq__, which may say yes or no -/
namespace CK
open PySem PySem.Spec PyProof.Rows L2 SX
section
variable {X : Cx} {k j : Nat} {C : Addr} {sp : Sp}
def rEqO (C : Addr) (sp : Sp) : R2 := fun x y H Q => ∃ a b dx fs dy gs, x = .ref a ∧ y = .ref b ∧ H a = some (.ins C dx fs) ∧ H b = some (.ins C dy gs) ∧ sp [.ref a, .ref b] H (fun v H' => (∃ r, v = .bl r) ∧ Q v H') C8.E0
theorem op_eqO (c : C8.Met X.prog X.w X.K X.mg X.base k C "__eq__" sp []) (hr : Room j X.A) (hk : k ≤ j) : OpR X (compareOp .Eq) (rEqO C sp) := by
  intro pins s σ H x y v u Q I rx ry h
  obtain ⟨a, b, dx, fs, dy, gs, rfl, rfl, ha, hb', hsp⟩ := h
  obtain ⟨f, fd, ps, ds, hc, hm, F, bnd, d⟩ := c.ex
  cases d
  cases rx
  cases ry
  obtain ⟨mA, J, _⟩ := ins_get I.hok ha
  obtain ⟨mB, J', _⟩ := ins_get I.hok hb'
  obtain ⟨od, J, _⟩ := J.look
  obtain ⟨od', J', _⟩ := J'.look
  obtain ⟨m, hF⟩ := I.fr
  have hr' := hr.mono hk
  show wpAny (model X.prog X.w) X.A (richCompare .Eq (.ref a) (.ref b)) (EP X pins σ Q) X.xe s
  refine PySem.W.cmp_K (op := .Eq) (tb := .ref C) hr.units0 hF I.ok.mod.kin J J'.type (by simp [PySem.W.notFirst]) hm.at_ hm.fn ?_
  have hl := F.len _ _ _ _ hsp
  have r2 : Vals [V.ref a, V.ref b] [Value.ref a, Value.ref b] := .cons rfl (.cons rfl .nil)
  refine wpAny_call (codeAny_mono (F.run X.A X.stack s H ⟨[.ref a, .ref b], []⟩ [.ref a, .ref b] [.ref a, .ref b] _ C8.E0 hr' I.env0 (by
    have := bnd s [.ref a, .ref b] I.kIn (by simpa using hl)
    simpa using this) r2 hsp) fun r s' hq => ?_)
  cases r with
  | error e => exact C8.pass0 (E := C8.E0) pins σ H s e s' I hq
  | ok fl =>
    cases fl with
    | ret w =>
      obtain ⟨z, H', I', rz, ⟨r, ez⟩, q⟩ := I.after hq
      subst ez
      cases rz
      exact ⟨.bl r, H', I', rfl, q⟩
    | next => exact False.elim hq
    | brk => exact False.elim hq
    | cont => exact False.elim hq
end
end CK

set_option linter.all false
/-! words as lists of numbers: beginnings, borders, periods, powers, roots -/
namespace WM
abbrev W := List Nat
/-! ### beginnings in common -/
def lcp : W → W → Nat
  | x :: xs, y :: ys => if x = y then lcp xs ys + 1 else 0
  | _, _ => 0
theorem lcp_le : ∀ a b : W, lcp a b ≤ a.length ∧ lcp a b ≤ b.length
  | [], b => by simp [lcp]
  | _ :: _, [] => by simp [lcp]
  | x :: xs, y :: ys => by
    have := lcp_le xs ys
    unfold lcp
    split <;> simp <;> omega
theorem lcp_take : ∀ (a b : W) (k : Nat), k ≤ lcp a b → a.take k = b.take k
  | _, _, 0, _ => by simp
  | [], b, k + 1, h => by simp [lcp] at h
  | _ :: _, [], k + 1, h => by simp [lcp] at h
  | x :: xs, y :: ys, k + 1, h => by
    unfold lcp at h
    split at h
    · rename_i e
      subst e
      rw [List.take_succ_cons, List.take_succ_cons, lcp_take xs ys k (by omega)]
    · omega
theorem le_lcp : ∀ (a b : W) (k : Nat), k ≤ a.length → k ≤ b.length → a.take k = b.take k → k ≤ lcp a b
  | _, _, 0, _, _, _ => Nat.zero_le _
  | [], b, k + 1, h, _, _ => by simp at h
  | _ :: _, [], k + 1, _, h, _ => by simp at h
  | x :: xs, y :: ys, k + 1, h1, h2, h => by
    rw [List.take_succ_cons, List.take_succ_cons] at h
    injection h with e1 e2
    subst e1
    have := le_lcp xs ys k (by simpa using h1) (by simpa using h2) e2
    unfold lcp
    rw [if_pos rfl]
    omega
theorem lcp_iff {a b : W} {k : Nat} (h1 : k ≤ a.length) (h2 : k ≤ b.length) : a.take k = b.take k ↔ k ≤ lcp a b := ⟨le_lcp a b k h1 h2, lcp_take a b k⟩

/-! ### periods and borders -/
/-- letters that stand p apart are the same -/
def Per (p : Nat) (w : W) : Prop := ∀ i, i + p < w.length → w[i]? = w[i + p]?
/-- the first b letters are the last b -/
def Bor (b : Nat) (w : W) : Prop := b ≤ w.length ∧ ∀ i, i < b → w[i]? = w[w.length - b + i]?
instance (b : Nat) (w : W) : Decidable (Bor b w) := by unfold Bor; exact inferInstance
theorem bor_per {b : Nat} {w : W} (h : Bor b w) : Per (w.length - b) w := fun i hi => by
  rw [h.2 i (by have := h.1; omega), Nat.add_comm i]
theorem per_bor {p : Nat} {w : W} (hp : p ≤ w.length) (h : Per p w) : Bor (w.length - p) w := by
  refine ⟨Nat.sub_le _ _, fun i hi => ?_⟩
  rw [h i (by omega)]
  congr 1
  omega
theorem per_zero (w : W) : Per 0 w := fun i _ => rfl
theorem per_len {p : Nat} {w : W} (h : w.length ≤ p) : Per p w := fun i hi => by omega
theorem per_take {p k : Nat} {w : W} (h : Per p w) : Per p (w.take k) := fun i hi => by
  rw [List.length_take] at hi
  rw [List.getElem?_take_of_lt (by omega), List.getElem?_take_of_lt (by omega)]
  exact h i (by omega)
theorem per_mul {p : Nat} {w : W} (h : Per p w) : ∀ (k i : Nat), i + p * k < w.length → w[i]? = w[i + p * k]?
  | 0, i, _ => by simp
  | k + 1, i, hi => by
    rw [Nat.mul_succ] at hi ⊢
    rw [per_mul h k i (by omega), h (i + p * k) (by omega)]
    congr 1
    omega
/-- Fine and Wilf's, the weak form -/
theorem per_sub {p q : Nat} {w : W} (hpq : p ≤ q) (hp : Per p w) (hq : Per q w) (hl : p + q ≤ w.length) : Per (q - p) w := fun i hi => by
  by_cases h : i + q < w.length
  · rw [hq i h]
    have := hp (i + (q - p)) (by omega)
    rw [this]
    congr 1
    omega
  · have h1 : p ≤ i := by omega
    have a := hp (i - p) (by omega)
    have b := hq (i - p) (by omega)
    rw [show i - p + p = i by omega] at a
    rw [show i - p + q = i + (q - p) by omega] at b
    rw [← a, b]
theorem fine_wilf : ∀ (n p q : Nat) (w : W), p + q ≤ n → Per p w → Per q w → p + q ≤ w.length → Per (Nat.gcd p q) w
  | 0, p, q, w, hn, hp, hq, _ => by
    have e1 : p = 0 := by omega
    have e2 : q = 0 := by omega
    subst e1 e2
    exact hp
  | n + 1, p, q, w, hn, hp, hq, hl => by
    by_cases p0 : p = 0
    · subst p0
      rw [Nat.gcd_zero_left]
      exact hq
    by_cases q0 : q = 0
    · subst q0
      rw [Nat.gcd_zero_right]
      exact hp
    by_cases h : p ≤ q
    · have := fine_wilf n p (q - p) w (by omega) hp (per_sub h hp hq hl) (by omega)
      rw [Nat.gcd_sub_self_right h] at this
      exact this
    · have := fine_wilf n (p - q) q w (by omega) (per_sub (by omega) hq hp (by omega)) hq (by omega)
      rw [Nat.gcd_sub_self_left (by omega)] at this
      exact this
theorem per_gcd {p q : Nat} {w : W} (hp : Per p w) (hq : Per q w) (hl : p + q ≤ w.length) : Per (Nat.gcd p q) w := fine_wilf _ p q w (Nat.le_refl _) hp hq hl

/-! ### the longest border -/
def lbF (w : W) : Nat → Nat
  | 0 => 0
  | b + 1 => if Bor (b + 1) w then b + 1 else lbF w b
/-- how long the longest border is, besides the word itself -/
def lb (w : W) : Nat := lbF w (w.length - 1)
theorem bor_zero (w : W) : Bor 0 w := ⟨Nat.zero_le _, fun i h => by omega⟩
theorem lbF_bor (w : W) : ∀ b, Bor (lbF w b) w ∧ lbF w b ≤ b
  | 0 => ⟨bor_zero w, Nat.le_refl _⟩
  | b + 1 => by
    unfold lbF
    split
    · rename_i h
      exact ⟨h, Nat.le_refl _⟩
    · have := lbF_bor w b
      exact ⟨this.1, by omega⟩
theorem lbF_max (w : W) : ∀ b c, c ≤ b → Bor c w → c ≤ lbF w b
  | 0, c, h, _ => by omega
  | b + 1, c, h, hc => by
    unfold lbF
    split
    · omega
    · rename_i hn
      by_cases e : c = b + 1
      · subst e
        exact absurd hc hn
      · exact lbF_max w b c (by omega) hc
theorem lb_bor (w : W) : Bor (lb w) w := (lbF_bor w _).1
theorem lb_lt {w : W} (h : w ≠ []) : lb w < w.length := by
  have := (lbF_bor w (w.length - 1)).2
  have := List.length_pos_iff.mpr h
  unfold lb
  omega
theorem lb_max {w : W} {c : Nat} (h : c < w.length) (hc : Bor c w) : c ≤ lb w := lbF_max w _ c (by omega) hc
/-- a border of a border is a border; a shorter border is one of the longer -/
theorem bor_take {w : W} {b c : Nat} (hb : Bor b w) (hc : c ≤ b) : Bor c w ↔ Bor c (w.take b) := by
  have l : (w.take b).length = b := by rw [List.length_take]; have := hb.1; omega
  constructor
  · intro h
    refine ⟨by rw [l]; exact hc, fun i hi => ?_⟩
    rw [l, List.getElem?_take_of_lt (by omega), List.getElem?_take_of_lt (by omega), h.2 i hi, hb.2 (b - c + i) (by omega)]
    congr 1
    have := hb.1
    omega
  · intro h
    refine ⟨Nat.le_trans hc hb.1, fun i hi => ?_⟩
    have := h.2 i hi
    rw [l, List.getElem?_take_of_lt (by omega), List.getElem?_take_of_lt (by omega)] at this
    rw [this, hb.2 (b - c + i) (by omega)]
    congr 1
    have := hb.1
    omega
/-- a border, one letter longer -/
theorem bor_succ {w : W} {n b : Nat} (hn : n < w.length) (hb : b < n) : Bor (b + 1) (w.take (n + 1)) ↔ Bor b (w.take n) ∧ w[b]? = w[n]? := by
  have l1 : (w.take (n + 1)).length = n + 1 := by rw [List.length_take]; omega
  have l0 : (w.take n).length = n := by rw [List.length_take]; omega
  constructor
  · intro h
    refine ⟨⟨by omega, fun i hi => ?_⟩, ?_⟩
    · have := h.2 i (by omega)
      rw [l1, List.getElem?_take_of_lt (by omega), List.getElem?_take_of_lt (by omega)] at this
      rw [l0, List.getElem?_take_of_lt (by omega), List.getElem?_take_of_lt (by omega), this]
      congr 1
      omega
    · have := h.2 b (by omega)
      rw [l1, List.getElem?_take_of_lt (by omega), List.getElem?_take_of_lt (by omega)] at this
      rw [this]
      congr 1
      omega
  · rintro ⟨h, e⟩
    refine ⟨by omega, fun i hi => ?_⟩
    rw [l1, List.getElem?_take_of_lt (by omega), List.getElem?_take_of_lt (by omega)]
    by_cases z : i < b
    · have := h.2 i z
      rw [l0, List.getElem?_take_of_lt (by omega), List.getElem?_take_of_lt (by omega)] at this
      rw [this]
      congr 1
      omega
    · have e1 : i = b := by omega
      subst e1
      rw [e]
      congr 1
      omega
/-- the walk down the borders: the state at a turn of the inner loop -/
def Cand (w : W) (n s : Nat) : Prop := s < n ∧ Bor s (w.take n) ∧ ∀ b, b < n → Bor b (w.take n) → w[b]? = w[n]? → b ≤ s
theorem cand_start {w : W} {n : Nat} (hn : n ≤ w.length) (h0 : 0 < n) : Cand w n (lb (w.take n)) := by
  have l0 : (w.take n).length = n := by rw [List.length_take]; omega
  have ne : w.take n ≠ [] := fun z => by rw [z] at l0; simp at l0; omega
  refine ⟨by have := lb_lt ne; omega, lb_bor _, fun b hb h _ => lb_max (by omega) h⟩
theorem cand_down {w : W} {n s : Nat} (hn : n ≤ w.length) (h : Cand w n s) (hs : 0 < s) (hd : w[s]? ≠ w[n]?) : Cand w n (lb (w.take s)) := by
  obtain ⟨h1, h2, h3⟩ := h
  have ls : (w.take s).length = s := by rw [List.length_take]; omega
  have ne : w.take s ≠ [] := fun z => by rw [z] at ls; simp at ls; omega
  have lt := lb_lt ne
  have tt : (w.take n).take s = w.take s := by rw [List.take_take]; congr 1; omega
  have bs : Bor (lb (w.take s)) (w.take n) := by
    rw [bor_take h2 (by omega), tt]
    exact lb_bor _
  refine ⟨by omega, bs, fun b hb hB e => ?_⟩
  have le := h3 b hb hB e
  have ne2 : b ≠ s := fun z => hd (by rw [← z]; exact e)
  have : Bor b (w.take s) := by
    rw [← tt, ← bor_take h2 (by omega)]
    exact hB
  exact lb_max (by omega) this
theorem cand_hit {w : W} {n s : Nat} (hn : n < w.length) (h : Cand w n s) (e : w[s]? = w[n]?) : lb (w.take (n + 1)) = s + 1 := by
  obtain ⟨h1, h2, h3⟩ := h
  have l1 : (w.take (n + 1)).length = n + 1 := by rw [List.length_take]; omega
  have ne : w.take (n + 1) ≠ [] := fun z => by rw [z] at l1; simp at l1
  have hB : Bor (s + 1) (w.take (n + 1)) := (bor_succ hn h1).mpr ⟨h2, e⟩
  have le := lb_max (by omega) hB
  have lt := lb_lt ne
  have lB := lb_bor (w.take (n + 1))
  generalize lb (w.take (n + 1)) = x at le lt lB ⊢
  cases x with
  | zero => omega
  | succ x =>
    obtain ⟨a, b⟩ := (bor_succ hn (by omega)).mp lB
    have := h3 x (by omega) a b
    omega
theorem cand_miss {w : W} {n : Nat} (hn : n < w.length) (h : Cand w n 0) (e : w[0]? ≠ w[n]?) : lb (w.take (n + 1)) = 0 := by
  obtain ⟨h1, h2, h3⟩ := h
  have l1 : (w.take (n + 1)).length = n + 1 := by rw [List.length_take]; omega
  have ne : w.take (n + 1) ≠ [] := fun z => by rw [z] at l1; simp at l1
  have lt := lb_lt ne
  have lB := lb_bor (w.take (n + 1))
  generalize lb (w.take (n + 1)) = x at lt lB ⊢
  cases x with
  | zero => rfl
  | succ x =>
    obtain ⟨a, b⟩ := (bor_succ hn (by omega)).mp lB
    have := h3 x (by omega) a b
    have z : x = 0 := by omega
    subst z
    exact absurd b e
theorem lb_one {w : W} : lb (w.take 1) = 0 := by
  cases w with
  | nil => simp [lb, lbF]
  | cons x r => simp [lb, lbF]

/-! ### powers and roots -/
/-- w taken k times -/
def pw (w : W) (k : Nat) : W := (List.replicate k w).flatten
theorem pw_succ (w : W) (k : Nat) : pw w (k + 1) = w ++ pw w k := by unfold pw; rw [List.replicate_succ, List.flatten_cons]
theorem pw_zero (w : W) : pw w 0 = [] := rfl
theorem pw_len (w : W) : ∀ k, (pw w k).length = w.length * k
  | 0 => by simp [pw_zero]
  | k + 1 => by rw [pw_succ, List.length_append, pw_len w k, Nat.mul_succ, Nat.add_comm]
theorem pw_add (w : W) : ∀ a b, pw w (a + b) = pw w a ++ pw w b
  | 0, b => by rw [Nat.zero_add, pw_zero, List.nil_append]
  | a + 1, b => by rw [show a + 1 + b = a + b + 1 by omega, pw_succ, pw_add w a b, pw_succ, List.append_assoc]
theorem pw_get {w : W} (h : w ≠ []) : ∀ (k i : Nat), i < w.length * k → (pw w k)[i]? = w[i % w.length]?
  | 0, i, hi => by simp at hi
  | k + 1, i, hi => by
    have n0 := List.length_pos_iff.mpr h
    rw [pw_succ]
    by_cases z : i < w.length
    · rw [List.getElem?_append_left z, Nat.mod_eq_of_lt z]
    · have hm : w.length * (k + 1) = w.length * k + w.length := Nat.mul_succ ..
      rw [List.getElem?_append_right (by omega), pw_get h k _ (by omega), Nat.mod_eq_sub_mod (show i ≥ w.length by omega)]
/-- a word with a period that divides its length is a power -/
theorem per_pw {w : W} {d : Nat} (hd : 0 < d) (hp : Per d w) (hv : d ∣ w.length) : w = pw (w.take d) (w.length / d) := by
  obtain ⟨k, hk⟩ := hv
  by_cases k0 : k = 0
  · subst k0
    rw [Nat.mul_zero] at hk
    rw [List.length_eq_zero_iff.mp hk]
    simp [pw]
  have dl : d ≤ w.length := by rw [hk]; exact Nat.le_mul_of_pos_right d (by omega)
  have lt : (w.take d).length = d := by rw [List.length_take]; omega
  have ne : w.take d ≠ [] := fun z => by rw [z] at lt; simp at lt; omega
  have ek : w.length / d = k := by rw [hk]; exact Nat.mul_div_cancel_left k hd
  rw [ek]
  refine List.ext_getElem? fun i => ?_
  by_cases hi : i < w.length
  · rw [pw_get ne k i (by rw [lt, ← hk]; exact hi), lt, List.getElem?_take_of_lt (Nat.mod_lt i hd)]
    have := per_mul hp (i / d) (i % d) (by rw [Nat.mod_add_div]; exact hi)
    rw [this, Nat.mod_add_div]
  · rw [List.getElem?_eq_none (by omega), List.getElem?_eq_none (by rw [pw_len, lt, ← hk]; omega)]
theorem pw_per {u : W} (h : u ≠ []) (k : Nat) : Per u.length (pw u k) := fun i hi => by
  rw [pw_len] at hi
  rw [pw_get h k i (by omega), pw_get h k _ hi, Nat.add_mod_right]
/-- not empty, and no shorter word taken several times -/
def Prim (w : W) : Prop := w ≠ [] ∧ ∀ d, 0 < d → d ∣ w.length → Per d w → d = w.length
theorem prim_pw {w u : W} {k : Nat} (h : Prim w) (e : w = pw u k) : k = 1 ∧ u = w := by
  have une : u ≠ [] := fun z => by
    subst z
    apply h.1
    rw [e]
    simp [pw]
  have l : w.length = u.length * k := by rw [e, pw_len]
  have := h.2 u.length (List.length_pos_iff.mpr une) ⟨k, l⟩ (by rw [e]; exact pw_per une k)
  have n0 := List.length_pos_iff.mpr une
  have k1 : k = 1 := by
    rw [this] at l
    have : w.length * 1 = w.length * k := by omega
    exact (Nat.eq_of_mul_eq_mul_left (by omega) this).symm
  subst k1
  exact ⟨rfl, by rw [e, pw_succ, pw_zero, List.append_nil]⟩
/-- the root's length, as the program finds it -/
def rootN (w : W) : Nat := if w.length % (w.length - lb w) = 0 then w.length - lb w else w.length
theorem rootN_dvd (w : W) : rootN w ∣ w.length := by
  unfold rootN
  split
  · rename_i h
    exact Nat.dvd_of_mod_eq_zero h
  · exact Nat.dvd_refl _
theorem rootN_pos {w : W} (h : w ≠ []) : 0 < rootN w := by
  have := lb_lt h
  have := List.length_pos_iff.mpr h
  unfold rootN
  split <;> omega
theorem rootN_le {w : W} (h : w ≠ []) : rootN w ≤ w.length := Nat.le_of_dvd (List.length_pos_iff.mpr h) (rootN_dvd w)
theorem rootN_per (w : W) : Per (rootN w) w := by
  unfold rootN
  split
  · exact bor_per (lb_bor w)
  · exact per_len (Nat.le_refl _)
/-- no period is less than the program's step -/
theorem step_least {w : W} {p : Nat} (hp : 0 < p) (hl : p ≤ w.length) (h : Per p w) : w.length - lb w ≤ p := by
  have := lb_max (c := w.length - p) (by omega) (per_bor hl h)
  omega
/-- a period of the word that divides its length is a multiple of the root's -/
theorem root_div {w : W} (hw : w ≠ []) {d : Nat} (hd : 0 < d) (hv : d ∣ w.length) (h : Per d w) : rootN w ∣ d := by
  have n0 := List.length_pos_iff.mpr hw
  have dl := Nat.le_of_dvd n0 hv
  have lt := lb_lt hw
  have s := step_least hd dl h
  by_cases e : d = w.length
  · rw [e]
    exact rootN_dvd w
  · have two : d + d ≤ w.length := by
      obtain ⟨k, hk⟩ := hv
      have : k ≠ 0 := fun z => by subst z; omega
      have : k ≠ 1 := fun z => by subst z; omega
      have : d * 2 ≤ d * k := Nat.mul_le_mul_left d (by omega)
      omega
    have g := per_gcd (bor_per (lb_bor w)) h (by omega)
    have gp : 0 < Nat.gcd (w.length - lb w) d := Nat.gcd_pos_of_pos_right _ hd
    have g1 := step_least gp (Nat.le_trans (Nat.gcd_le_right _ hd) dl) g
    have g2 : Nat.gcd (w.length - lb w) d ∣ w.length - lb w := Nat.gcd_dvd_left _ _
    have g3 : Nat.gcd (w.length - lb w) d = w.length - lb w := Nat.le_antisymm (Nat.le_of_dvd (by omega) g2) g1
    have g4 : w.length - lb w ∣ d := by rw [← g3]; exact Nat.gcd_dvd_right _ _
    have : w.length % (w.length - lb w) = 0 := Nat.mod_eq_zero_of_dvd (Nat.dvd_trans g4 hv)
    unfold rootN
    rw [if_pos this]
    exact g4
theorem root_prim {w : W} (hw : w ≠ []) : Prim (w.take (rootN w)) := by
  have r0 := rootN_pos hw
  have rl := rootN_le hw
  have l : (w.take (rootN w)).length = rootN w := by rw [List.length_take]; omega
  refine ⟨fun z => by rw [z] at l; simp at l; omega, fun d hd hv h => ?_⟩
  rw [l] at hv ⊢
  -- a period of the root that divides it is one of the word
  have hw' : Per d w := fun i hi => by
    have mul : ∀ j, j < w.length → w[j]? = w[j % rootN w]? := fun j hj => by
      have := per_mul (rootN_per w) (j / rootN w) (j % rootN w) (by rw [Nat.mod_add_div]; exact hj)
      rw [Nat.mod_add_div] at this
      exact this.symm
    have inner : ∀ j, j < rootN w → w[j]? = w[j % d]? := fun j hj => by
      have := per_mul h (j / d) (j % d) (by rw [Nat.mod_add_div, l]; exact hj)
      rw [Nat.mod_add_div, List.getElem?_take_of_lt hj, List.getElem?_take_of_lt (by have := Nat.mod_le j d; omega)] at this
      exact this.symm
    rw [mul i (by omega), mul (i + d) hi, inner _ (Nat.mod_lt _ r0), inner ((i + d) % rootN w) (Nat.mod_lt _ r0)]
    congr 1
    rw [Nat.mod_mod_of_dvd _ hv, Nat.mod_mod_of_dvd _ hv, Nat.add_mod_right]
  exact Nat.dvd_antisymm hv (root_div hw hd (Nat.dvd_trans hv (rootN_dvd w)) hw')
theorem root_pw {w : W} (hw : w ≠ []) : w = pw (w.take (rootN w)) (w.length / rootN w) := per_pw (rootN_pos hw) (rootN_per w) (rootN_dvd w)
end WM

set_option linter.all false
set_option maxRecDepth 100000
namespace NM
open WM
/-! ### the last letters of a word taken without end; rotations -/
theorem mod_of {a b L x y : Nat} (h : a + L * x = b + L * y) : a % L = b % L := by
  rw [← Nat.add_mul_mod_self_left a L x, h, Nat.add_mul_mod_self_left]
def rotR (u : W) (k : Nat) : W := u.drop (u.length - k % u.length) ++ u.take (u.length - k % u.length)
def tailE (u : W) (k : Nat) : W := u.drop (u.length - k % u.length) ++ pw u (k / u.length)
theorem tailE_len {u : W} (h : u ≠ []) (k : Nat) : (tailE u k).length = k := by
  have n0 := List.length_pos_iff.mpr h
  have := Nat.mod_lt k n0
  have := Nat.mod_add_div k u.length
  unfold tailE
  rw [List.length_append, List.length_drop, pw_len]
  omega
theorem tailE_get {u : W} (h : u ≠ []) {k i : Nat} (hi : i < k) : (tailE u k)[i]? = u[(i + (u.length - k % u.length)) % u.length]? := by
  have n0 := List.length_pos_iff.mpr h
  have hm := Nat.mod_lt k n0
  have hd := Nat.mod_add_div k u.length
  unfold tailE
  by_cases z : i < k % u.length
  · rw [List.getElem?_append_left (by rw [List.length_drop]; omega), List.getElem?_drop, Nat.mod_eq_of_lt (show i + (u.length - k % u.length) < u.length by omega), Nat.add_comm]
  · rw [List.getElem?_append_right (by rw [List.length_drop]; omega), List.length_drop, pw_get h _ _ (by omega)]
    congr 1
    exact mod_of (x := 1) (y := 0) (by omega)
theorem tailE_drop {u : W} (h : u ≠ []) {n k : Nat} (hk : k ≤ n) : (tailE u n).drop (n - k) = tailE u k := by
  have n0 := List.length_pos_iff.mpr h
  refine List.ext_getElem? fun i => ?_
  by_cases hi : i < k
  · rw [List.getElem?_drop, tailE_get h (by omega), tailE_get h hi]
    congr 1
    have h1 := Nat.mod_add_div n u.length
    have h2 := Nat.mod_add_div k u.length
    have h3 := Nat.mod_lt n n0
    have h4 := Nat.mod_lt k n0
    exact mod_of (x := k / u.length) (y := n / u.length) (by omega)
  · rw [List.getElem?_eq_none (by rw [List.length_drop, tailE_len h]; omega), List.getElem?_eq_none (by rw [tailE_len h]; omega)]
theorem pw_comm (p s : W) : ∀ j, pw (s ++ p) j ++ s = s ++ pw (p ++ s) j
  | 0 => by simp [pw]
  | j + 1 => by
    rw [pw_succ, pw_succ, List.append_assoc, pw_comm p s j]
    simp [List.append_assoc]
theorem rotR_split (u : W) (k : Nat) : rotR u k = u.drop (u.length - k % u.length) ++ u.take (u.length - k % u.length) := rfl
theorem rotR_len (u : W) (k : Nat) : (rotR u k).length = u.length := by
  unfold rotR
  rw [List.length_append, List.length_drop, List.length_take]
  omega
/-- what is moved behind a power, and the power turned -/
theorem move_pw (u : W) (k j : Nat) : pw (rotR u k) j ++ tailE u k = tailE u k ++ pw u j := by
  have e : u.take (u.length - k % u.length) ++ u.drop (u.length - k % u.length) = u := List.take_append_drop _ _
  unfold tailE rotR
  rw [← List.append_assoc, pw_comm, e, List.append_assoc, ← pw_add, List.append_assoc, ← pw_add, Nat.add_comm]
theorem rotR_get {u : W} (h : u ≠ []) (k : Nat) {i : Nat} (hi : i < u.length) : (rotR u k)[i]? = u[(i + (u.length - k % u.length)) % u.length]? := by
  have n0 := List.length_pos_iff.mpr h
  have hm := Nat.mod_lt k n0
  unfold rotR
  by_cases z : i < k % u.length
  · rw [List.getElem?_append_left (by rw [List.length_drop]; omega), List.getElem?_drop, Nat.mod_eq_of_lt (show i + (u.length - k % u.length) < u.length by omega), Nat.add_comm]
  · rw [List.getElem?_append_right (by rw [List.length_drop]; omega), List.length_drop, List.getElem?_take_of_lt (by omega)]
    congr 1
    rw [show i - (u.length - (u.length - k % u.length)) = i - k % u.length by omega]
    have := mod_of (a := i + (u.length - k % u.length)) (b := i - k % u.length) (L := u.length) (x := 0) (y := 1) (by omega)
    rw [this, Nat.mod_eq_of_lt (show i - k % u.length < u.length by omega)]
theorem rotR_ne {u : W} (h : u ≠ []) (k : Nat) : rotR u k ≠ [] := fun z => by
  have := rotR_len u k
  rw [z] at this
  exact h (List.length_eq_zero_iff.mp this.symm)
theorem rotR_zero (u : W) : rotR u 0 = u := by
  unfold rotR
  simp
theorem last_get {w : W} (h : w ≠ []) : w.getLast? = w[w.length - 1]? := List.getLast?_eq_getElem? ..
/-- the last letter of the turned word is the letter ahead of what was moved -/
theorem rotR_last {u : W} (h : u ≠ []) {n k : Nat} (hk : k < n) : (rotR u k).getLast? = (tailE u n)[n - k - 1]? := by
  have n0 := List.length_pos_iff.mpr h
  rw [last_get (rotR_ne h k), rotR_len, rotR_get h k (by omega), tailE_get h (by omega)]
  congr 1
  have h1 := Nat.mod_add_div n u.length
  have h2 := Nat.mod_add_div k u.length
  have h3 := Nat.mod_lt n n0
  have h4 := Nat.mod_lt k n0
  exact mod_of (x := n / u.length) (y := k / u.length + 1) (by rw [Nat.mul_add]; omega)
theorem per_at {d : Nat} {w : W} (hd : 0 < d) (h : Per d w) {i : Nat} (hi : i < w.length) : w[i]? = w[i % d]? := by
  have := per_mul h (i / d) (i % d) (by rw [Nat.mod_add_div]; exact hi)
  rw [Nat.mod_add_div] at this
  exact this.symm
theorem prim_rotR {u : W} (h : Prim u) (k : Nat) : Prim (rotR u k) := by
  have ne := h.1
  have n0 := List.length_pos_iff.mpr ne
  refine ⟨rotR_ne ne k, fun d hd hv hp => ?_⟩
  rw [rotR_len] at hv ⊢
  refine h.2 d hd hv fun i hi => ?_
  -- letter i of u stands in the turned word at the place i + k
  have at_ : ∀ j, j < u.length → u[j]? = (rotR u k)[(j + k) % u.length]? := fun j hj => by
    rw [rotR_get ne k (Nat.mod_lt _ n0)]
    congr 1
    have h1 := Nat.mod_add_div (j + k) u.length
    have h2 := Nat.mod_add_div k u.length
    have h4 := Nat.mod_lt k n0
    have := mod_of (a := (j + k) % u.length + (u.length - k % u.length)) (b := j) (L := u.length) (x := (j + k) / u.length) (y := k / u.length + 1) (by rw [Nat.mul_add]; omega)
    rw [this, Nat.mod_eq_of_lt hj]
  have l := rotR_len u k
  rw [at_ i (by omega), at_ (i + d) hi, per_at hd hp (by rw [l]; exact Nat.mod_lt _ n0), per_at hd hp (i := (i + d + k) % u.length) (by rw [l]; exact Nat.mod_lt _ n0)]
  congr 1
  rw [Nat.mod_mod_of_dvd _ hv, Nat.mod_mod_of_dvd _ hv, show i + d + k = i + k + d by omega, Nat.add_mod_right]
/-! ### how many letters are moved -/
def movedE (ahead u : W) : Nat := lcp ahead.reverse (tailE u ahead.length).reverse
theorem movedE_le (ahead u : W) : movedE ahead u ≤ ahead.length := by
  have := (lcp_le ahead.reverse (tailE u ahead.length).reverse).1
  rw [List.length_reverse] at this
  exact this
theorem moved_drop {ahead u : W} (h : u ≠ []) : ahead.drop (ahead.length - movedE ahead u) = tailE u (movedE ahead u) := by
  have hle := movedE_le ahead u
  have e := lcp_take ahead.reverse (tailE u ahead.length).reverse _ (Nat.le_refl _)
  rw [List.take_reverse, List.take_reverse] at e
  have e2 := List.reverse_inj.mp e
  rw [tailE_len h] at e2
  rw [← tailE_drop h hle]
  exact e2
theorem lcp_next : ∀ (a b : W), lcp a b < a.length → lcp a b < b.length → a[lcp a b]? ≠ b[lcp a b]?
  | [], b, h, _ => by simp at h
  | _ :: _, [], _, h => by simp at h
  | x :: xs, y :: ys, h1, h2 => by
    unfold lcp at h1 h2 ⊢
    by_cases e : x = y
    · rw [if_pos e] at h1 h2 ⊢
      rw [List.getElem?_cons_succ, List.getElem?_cons_succ]
      exact lcp_next xs ys (by simpa using h1) (by simpa using h2)
    · rw [if_neg e]
      simp [e]
theorem moved_next {ahead u : W} (h : u ≠ []) (hk : movedE ahead u < ahead.length) : (ahead.take (ahead.length - movedE ahead u)).getLast? ≠ (rotR u (movedE ahead u)).getLast? := by
  rw [rotR_last h hk, List.getLast?_eq_getElem?, List.length_take, Nat.min_eq_left (by omega), List.getElem?_take_of_lt (by omega)]
  have := lcp_next ahead.reverse (tailE u ahead.length).reverse (by rw [List.length_reverse]; exact hk) (by rw [List.length_reverse, tailE_len h]; exact hk)
  rw [List.getElem?_reverse (by exact hk), List.getElem?_reverse (by rw [tailE_len h]; exact hk), tailE_len h] at this
  have e : ahead.length - movedE ahead u - 1 = ahead.length - 1 - movedE ahead u := by omega
  rw [e]
  exact this
theorem moved_zero {ahead u : W} (h : u ≠ []) (ha : ahead ≠ []) (hl : ahead.getLast? ≠ u.getLast?) : movedE ahead u = 0 := by
  have n0 := List.length_pos_iff.mpr ha
  have u0 := List.length_pos_iff.mpr h
  by_cases z : movedE ahead u = 0
  · exact z
  exfalso
  apply hl
  have e := moved_drop (ahead := ahead) h
  have hle := movedE_le ahead u
  rw [List.getLast?_eq_getElem?, List.getLast?_eq_getElem?]
  have h1 : (ahead.drop (ahead.length - movedE ahead u))[movedE ahead u - 1]? = (tailE u (movedE ahead u))[movedE ahead u - 1]? := by rw [e]
  rw [List.getElem?_drop, tailE_get h (by omega)] at h1
  rw [show ahead.length - 1 = ahead.length - movedE ahead u + (movedE ahead u - 1) by omega, h1]
  congr 1
  have h2 := Nat.mod_add_div (movedE ahead u) u.length
  have h4 := Nat.mod_lt (movedE ahead u) u0
  have := mod_of (a := movedE ahead u - 1 + (u.length - movedE ahead u % u.length)) (b := u.length - 1) (L := u.length) (x := 0) (y := movedE ahead u / u.length) (by omega)
  rw [this, Nat.mod_eq_of_lt (show u.length - 1 < u.length by omega)]
end NM

set_option linter.all false
set_option maxRecDepth 100000
/-! normal lists of pieces: the program's steps as functions, and what they keep -/
namespace NM
open WM
abbrev F := List Nat
abbrev Pn := W × F
def isOpen (f : F) : Bool := f.tail.any fun x => decide (x ≠ 0)
def isPow (p : Pn) : Bool := decide (p.2.headD 0 = 0)
def one1 (m : Nat) : F := 1 :: List.replicate m 0
def fixP (w : W) (m : Nat) : Pn := (w, one1 m)
def addF (f g : F) : F := List.zipWith (fun x y => x + y) f g
def timesF (k : Nat) (f : F) : F := f.map fun x => k * x
def joinF (acc : List Pn) (w : W) (m : Nat) : List Pn :=
  match acc.getLast? with
  | some q => if isPow q then (if w = [] then acc else acc ++ [fixP w m]) else (if q.1 ++ w = [] then acc.dropLast else acc.dropLast ++ [fixP (q.1 ++ w) m])
  | none => if w = [] then acc else acc ++ [fixP w m]
/-- a power, behind what is no fixed piece -/
def pushP (acc : List Pn) (u : W) (f : F) : List Pn :=
  match acc.getLast? with
  | some q => if isPow q ∧ q.1 = u then acc.dropLast ++ [(u, addF q.2 f)] else acc ++ [(u, f)]
  | none => acc ++ [(u, f)]
def putP (acc : List Pn) (u : W) (f : F) : List Pn :=
  match acc.getLast? with
  | some q => if isPow q then joinF (pushP acc u f) [] (f.length - 1)
    else joinF (pushP (joinF acc.dropLast (q.1.take (q.1.length - movedE q.1 u)) (f.length - 1)) (rotR u (movedE q.1 u)) f) (q.1.drop (q.1.length - movedE q.1 u)) (f.length - 1)
  | none => joinF (pushP acc u f) [] (f.length - 1)
def stepA (acc : List Pn) (p : Pn) : List Pn := if p.1 ≠ [] ∧ isOpen p.2 then putP acc (p.1.take (rootN p.1)) (timesF (p.1.length / rootN p.1) (0 :: p.2.tail)) else acc
def stepB (acc : List Pn) (p : Pn) : List Pn := if p.1 ≠ [] ∧ p.2.headD 0 ≠ 0 then joinF acc (pw p.1 (p.2.headD 0)) (p.2.length - 1) else acc
def stepN (acc : List Pn) (p : Pn) : List Pn := stepB (stepA acc p) p
def normL (ps : List Pn) : List Pn := ps.foldl stepN []

/-! ### what is written at a point -/
def dot : List Nat → List Nat → Nat
  | x :: xs, y :: ys => x * y + dot xs ys
  | _, _ => 0
def valF (f : F) (pt : List Nat) : Nat := f.headD 0 + dot f.tail pt
def wrt (pt : List Nat) (p : Pn) : W := pw p.1 (valF p.2 pt)
def wr (pt : List Nat) : List Pn → W
  | [] => []
  | p :: r => wrt pt p ++ wr pt r
theorem wr_app (pt : List Nat) : ∀ a b, wr pt (a ++ b) = wr pt a ++ wr pt b
  | [], b => rfl
  | p :: r, b => by rw [List.cons_append, wr, wr, wr_app pt r b, List.append_assoc]
theorem wr_one (pt : List Nat) (p : Pn) : wr pt [p] = wrt pt p := by rw [wr, wr, List.append_nil]
theorem dot_zero : ∀ (m : Nat) (pt : List Nat), dot (List.replicate m 0) pt = 0
  | 0, _ => by simp [dot]
  | m + 1, [] => by simp [dot, List.replicate_succ]
  | m + 1, y :: ys => by rw [List.replicate_succ, dot, dot_zero m ys]; simp
theorem val_one (m : Nat) (pt : List Nat) : valF (one1 m) pt = 1 := by
  unfold valF one1
  simp [dot_zero]
theorem pw_one (w : W) : pw w 1 = w := by rw [pw_succ, pw_zero, List.append_nil]
theorem wrt_fix (pt : List Nat) (w : W) (m : Nat) : wrt pt (fixP w m) = w := by
  unfold wrt fixP
  rw [val_one, pw_one]
theorem last_split {α : Type} {l : List α} {q : α} (h : l.getLast? = some q) : l = l.dropLast ++ [q] := by
  obtain ⟨ne, e⟩ := List.getLast?_eq_some_iff.mp h
  subst e
  simp
theorem dot_add : ∀ (f g pt : List Nat), f.length = g.length → dot (List.zipWith (fun x y => x + y) f g) pt = dot f pt + dot g pt
  | [], [], _, _ => by simp [dot]
  | _ :: _, [], _, h => by simp at h
  | [], _ :: _, _, h => by simp at h
  | x :: f, y :: g, [], _ => by simp [dot]
  | x :: f, y :: g, z :: pt, h => by
    rw [List.zipWith_cons_cons, dot, dot, dot, dot_add f g pt (by simpa using h), Nat.add_mul]
    omega
theorem val_add {f g : F} (pt : List Nat) (h : f.length = g.length) : valF (addF f g) pt = valF f pt + valF g pt := by
  cases f with
  | nil =>
    cases g with
    | nil => simp [valF, addF, dot]
    | cons _ _ => simp at h
  | cons x f =>
    cases g with
    | nil => simp at h
    | cons y g =>
      unfold valF addF
      rw [List.zipWith_cons_cons]
      simp only [List.headD_cons, List.tail_cons]
      rw [dot_add f g pt (by simpa using h)]
      omega
theorem dot_times (k : Nat) : ∀ (f pt : List Nat), dot (f.map fun x => k * x) pt = k * dot f pt
  | [], _ => by simp [dot]
  | x :: f, [] => by simp [dot]
  | x :: f, y :: pt => by rw [List.map_cons, dot, dot, dot_times k f pt, Nat.mul_add, Nat.mul_assoc]
theorem val_times (k : Nat) (f : F) (pt : List Nat) : valF (timesF k f) pt = k * valF f pt := by
  cases f with
  | nil => simp [valF, timesF, dot]
  | cons x f =>
    unfold valF timesF
    rw [List.map_cons]
    simp only [List.headD_cons, List.tail_cons]
    rw [dot_times, Nat.mul_add]
/-- forms as they stand in a list for m unknowns -/
def LenF (m : Nat) (ps : List Pn) : Prop := ∀ p ∈ ps, p.2.length = m + 1
/-- the fixed pieces have the form of one -/
def FixOk (m : Nat) (ps : List Pn) : Prop := ∀ p ∈ ps, isPow p = false → p.2 = one1 m
theorem isPow_fix (w : W) (m : Nat) : isPow (fixP w m) = false := rfl
theorem wr_joinF {acc : List Pn} {m : Nat} (h : FixOk m acc) (w : W) (pt : List Nat) : wr pt (joinF acc w m) = wr pt acc ++ w := by
  unfold joinF
  split
  · next q hq =>
    have e := last_split hq
    have mem : q ∈ acc := List.mem_of_getLast? hq
    split
    · split
      · next z => rw [z, List.append_nil]
      · rw [wr_app, wr_one, wrt_fix]
    · next np =>
      have f1 := h q mem (by simpa using np)
      have wq : wrt pt q = q.1 := by unfold wrt; rw [f1, val_one, pw_one]
      have ew : wr pt acc = wr pt acc.dropLast ++ q.1 := by
        conv => lhs; rw [e]
        rw [wr_app, wr_one, wq]
      split
      · next z =>
        rw [ew]
        have z1 := (List.append_eq_nil_iff.mp z).1
        have z2 := (List.append_eq_nil_iff.mp z).2
        rw [z1, z2, List.append_nil, List.append_nil]
      · rw [wr_app, wr_one, wrt_fix, ew, List.append_assoc]
  · split
    · next z => rw [z, List.append_nil]
    · rw [wr_app, wr_one, wrt_fix]
theorem wr_pushP {acc : List Pn} {m : Nat} (h : LenF m acc) {u : W} {f : F} (hf : f.length = m + 1) (pt : List Nat) : wr pt (pushP acc u f) = wr pt acc ++ wrt pt (u, f) := by
  unfold pushP
  split
  · next q hq =>
    have e := last_split hq
    have mem : q ∈ acc := List.mem_of_getLast? hq
    split
    · next z =>
      have ew : wr pt acc = wr pt acc.dropLast ++ wrt pt q := by
        conv => lhs; rw [e]
        rw [wr_app, wr_one]
      rw [wr_app, wr_one, ew, List.append_assoc]
      congr 1
      show pw u (valF (addF q.2 f) pt) = pw q.1 (valF q.2 pt) ++ pw u (valF f pt)
      rw [val_add pt (by rw [h q mem, hf]), pw_add, z.2]
    · rw [wr_app, wr_one]
  · rw [wr_app, wr_one]

/-! ### the fold's facts -/
theorem get_dropLast {α : Type} {l : List α} {i : Nat} {x : α} (h : l.dropLast[i]? = some x) : l[i]? = some x := by
  rw [List.getElem?_dropLast] at h
  split at h
  · exact h
  · cases h
theorem mem_dropLast {α : Type} {l : List α} {x : α} (h : x ∈ l.dropLast) : x ∈ l := List.dropLast_subset _ h
structure NormP (m : Nat) (p : Pn) : Prop where
  ne : p.1 ≠ []
  len : p.2.length = m + 1
  fix : isPow p = false → p.2 = one1 m
  pow : isPow p = true → Prim p.1 ∧ isOpen p.2 = true
structure Adj (p q : Pn) : Prop where
  fix : isPow p = false → isPow q = true ∧ p.1.getLast? ≠ q.1.getLast?
  pow : isPow p = true → isPow q = true → p.1 ≠ q.1
structure Nm (m : Nat) (ps : List Pn) : Prop where
  all : ∀ p ∈ ps, NormP m p
  adj : ∀ i p q, ps[i]? = some p → ps[i + 1]? = some q → Adj p q
theorem Nm.nil {m : Nat} : Nm m [] := ⟨fun p h => absurd h List.not_mem_nil, fun i p q h => by simp at h⟩
theorem Nm.init {m : Nat} {l : List Pn} (h : Nm m l) : Nm m l.dropLast :=
  ⟨fun p hp => h.all p (mem_dropLast hp), fun i p q hp hq => h.adj i p q (get_dropLast hp) (get_dropLast hq)⟩
theorem Nm.snoc {m : Nat} {l : List Pn} {p : Pn} (h : Nm m l) (hp : NormP m p) (ha : ∀ q, l.getLast? = some q → Adj q p) : Nm m (l ++ [p]) := by
  refine ⟨fun q hq => ?_, fun i a b hi hj => ?_⟩
  · rcases List.mem_append.mp hq with z | z
    · exact h.all q z
    · rw [List.mem_singleton.mp z]
      exact hp
  · by_cases z : i + 1 < l.length
    · rw [List.getElem?_append_left (by omega)] at hi
      rw [List.getElem?_append_left z] at hj
      exact h.adj i a b hi hj
    · by_cases y : i + 1 = l.length
      · rw [List.getElem?_append_left (by omega)] at hi
        rw [List.getElem?_append_right (by omega), y, Nat.sub_self] at hj
        cases hj
        refine ha a ?_
        rw [List.getLast?_eq_getElem?, ← hi]
        congr 1
        omega
      · rw [List.getElem?_append_right (by omega), List.getElem?_eq_none (by simp; omega)] at hj
        cases hj
/-- the piece ahead of the last one -/
theorem Nm.pre {m : Nat} {l : List Pn} {p q : Pn} (h : Nm m l) (hp : l.getLast? = some p) (hq : l.dropLast.getLast? = some q) : Adj q p := by
  rw [List.getLast?_eq_getElem?] at hp hq
  have hq' := get_dropLast hq
  rw [List.length_dropLast] at hq'
  have hl := (List.getElem?_eq_some_iff.mp hq).1
  rw [List.length_dropLast] at hl
  refine h.adj (l.length - 1 - 1) q p hq' ?_
  rw [← hp]
  congr 1
  omega
theorem fixP_norm {m : Nat} {w : W} (h : w ≠ []) : NormP m (fixP w m) := ⟨h, by simp [fixP, one1], fun _ => rfl, fun z => by cases z⟩
/-- a fixed word behind a normal list -/
theorem nm_joinF {m : Nat} {acc : List Pn} (h : Nm m acc) (w : W) : Nm m (joinF acc w m) := by
  unfold joinF
  split
  · next q hq =>
    split
    · next pq =>
      split
      · exact h
      · next ne =>
        refine h.snoc (fixP_norm ne) fun q' hq' => ?_
        rw [hq] at hq'
        cases hq'
        exact ⟨fun z => (by rw [pq] at z; cases z), fun _ z => (by cases z)⟩
    · next pq =>
      split
      · exact h.init
      · next ne =>
        refine h.init.snoc (fixP_norm ne) fun q' hq' => ?_
        have a := h.pre hq hq'
        have pq' : isPow q = false := by simpa using pq
        exact ⟨fun z => (by have := (a.fix z).1; rw [pq'] at this; cases this), fun _ z => (by cases z)⟩
  · next hn =>
    split
    · exact h
    · next ne =>
      refine h.snoc (fixP_norm ne) fun q' hq' => ?_
      rw [hn] at hq'
      cases hq'
theorem isOpen_iff {f : F} : isOpen f = true ↔ ∃ x ∈ f.tail, x ≠ 0 := by
  unfold isOpen
  rw [List.any_eq_true]
  constructor
  · rintro ⟨x, hx, h⟩
    exact ⟨x, hx, by simpa using h⟩
  · rintro ⟨x, hx, h⟩
    exact ⟨x, hx, by simpa using h⟩
theorem open_add {f g : F} (hl : f.length = g.length) (h : isOpen g = true) : isOpen (addF f g) = true := by
  obtain ⟨x, hx, h0⟩ := isOpen_iff.mp h
  refine isOpen_iff.mpr ?_
  cases f with
  | nil =>
    cases g with
    | nil => cases hx
    | cons _ _ => simp at hl
  | cons a f =>
    cases g with
    | nil => simp at hl
    | cons b g =>
      obtain ⟨i, hi⟩ := List.getElem?_of_mem (show x ∈ g from hx)
      have hi2 := (List.getElem?_eq_some_iff.mp hi).1
      have hf : i < f.length := by simp at hl; omega
      refine ⟨f[i] + x, ?_, by omega⟩
      refine List.mem_of_getElem? (i := i) ?_
      show (List.zipWith (fun x y => x + y) f g)[i]? = _
      rw [List.getElem?_zipWith, List.getElem?_eq_getElem hf, hi]
theorem len_add {f g : F} (hl : f.length = g.length) : (addF f g).length = g.length := by
  unfold addF
  rw [List.length_zipWith]
  omega
theorem head_add {f g : F} (hl : f.length = g.length) (h1 : f.headD 0 = 0) (h2 : g.headD 0 = 0) : (addF f g).headD 0 = 0 := by
  cases f with
  | nil => simp [addF]
  | cons a f =>
    cases g with
    | nil => simp at hl
    | cons b g =>
      simp only [List.headD_cons] at h1 h2
      show a + b = 0
      omega
theorem pow_norm {m : Nat} {u : W} {f : F} (hu : Prim u) (hl : f.length = m + 1) (h0 : f.headD 0 = 0) (ho : isOpen f = true) : NormP m (u, f) ∧ isPow (u, f) = true := by
  have e : isPow (u, f) = true := decide_eq_true h0
  exact ⟨⟨hu.1, hl, fun z => (by rw [e] at z; cases z), fun _ => ⟨hu, ho⟩⟩, e⟩
/-- a power behind what does not end with its last letter -/
theorem nm_pushP {m : Nat} {acc : List Pn} (h : Nm m acc) {u : W} {f : F} (hu : Prim u) (hl : f.length = m + 1) (h0 : f.headD 0 = 0) (ho : isOpen f = true)
    (hx : ∀ q, acc.getLast? = some q → isPow q = false → q.1.getLast? ≠ u.getLast?) : Nm m (pushP acc u f) ∧ ∃ g, (pushP acc u f).getLast? = some (u, g) ∧ isPow (u, g) = true := by
  obtain ⟨np, pp⟩ := pow_norm hu hl h0 ho
  unfold pushP
  split
  · next q hq =>
    have mq := h.all q (List.mem_of_getLast? hq)
    split
    · next z =>
      obtain ⟨z1, z2⟩ := z
      have lq : q.2.length = f.length := by rw [mq.len, hl]
      have hq0 : q.2.headD 0 = 0 := of_decide_eq_true z1
      obtain ⟨np2, pp2⟩ := pow_norm (m := m) (f := addF q.2 f) hu (by rw [len_add lq, hl]) (head_add lq hq0 h0) (open_add lq ho)
      refine ⟨h.init.snoc np2 fun q' hq' => ?_, _, by simp, pp2⟩
      have a := h.pre hq hq'
      exact ⟨fun y => ⟨pp2, by have := (a.fix y).2; rw [z2] at this; exact this⟩, fun y _ => by have := a.pow y z1; rw [z2] at this; exact this⟩
    · next z =>
      refine ⟨h.snoc np fun q' hq' => ?_, _, by simp, pp⟩
      rw [hq] at hq'
      cases hq'
      exact ⟨fun y => ⟨pp, hx q hq y⟩, fun y _ e => z ⟨y, e⟩⟩
  · next hn =>
    refine ⟨h.snoc np fun q' hq' => ?_, _, by simp, pp⟩
    rw [hn] at hq'
    cases hq'
theorem joinF_nil {acc : List Pn} {q : Pn} {m : Nat} (h : acc.getLast? = some q) (hp : isPow q = true) : joinF acc [] m = acc := by
  unfold joinF
  rw [h]
  simp [hp]
theorem nm_putP {m : Nat} {acc : List Pn} (h : Nm m acc) {u : W} {f : F} (hu : Prim u) (hl : f.length = m + 1) (h0 : f.headD 0 = 0) (ho : isOpen f = true) : Nm m (putP acc u f) := by
  have em : f.length - 1 = m := by omega
  unfold putP
  rw [em]
  split
  · next q hq =>
    split
    · next pq =>
      exact nm_joinF (nm_pushP h hu hl h0 ho fun q' hq' z => by rw [hq] at hq'; cases hq'; rw [pq] at z; cases z).1 _
    · next pq =>
      have pq' : isPow q = false := by simpa using pq
      refine nm_joinF (nm_pushP (nm_joinF h.init _) (prim_rotR hu _) hl h0 ho fun q' hq' z => ?_).1 _
      by_cases e : q.1.take (q.1.length - movedE q.1 u) = []
      · -- nothing is left of the fixed piece: what is ahead is a power
        exfalso
        rw [e] at hq'
        have : joinF acc.dropLast [] m = acc.dropLast := by
          cases hd : acc.dropLast.getLast? with
          | none =>
            unfold joinF
            rw [hd]
            simp
          | some r =>
            have a := h.pre hq hd
            have pr : isPow r = true := by
              cases y : isPow r with
              | true => rfl
              | false =>
                have := (a.fix y).1
                rw [pq'] at this
                cases this
            exact joinF_nil hd pr
        rw [this] at hq'
        have a := h.pre hq hq'
        have := (a.fix z).1
        rw [pq'] at this
        cases this
      · have lt : movedE q.1 u < q.1.length := by
          have := List.length_pos_iff.mpr e
          rw [List.length_take] at this
          omega
        have eq : joinF acc.dropLast (q.1.take (q.1.length - movedE q.1 u)) m = acc.dropLast ++ [fixP (q.1.take (q.1.length - movedE q.1 u)) m] := by
          unfold joinF
          split
          · next r hr =>
            have a := h.pre hq hr
            have pr : isPow r = true := by
              cases y : isPow r with
              | true => rfl
              | false =>
                have := (a.fix y).1
                rw [pq'] at this
                cases this
            rw [if_pos pr, if_neg e]
          · rw [if_neg e]
        rw [eq] at hq'
        rw [List.getLast?_append] at hq'
        cases hq'
        exact moved_next hu.1 lt
  · next hn =>
    exact nm_joinF (nm_pushP h hu hl h0 ho fun q' hq' => by rw [hn] at hq'; cases hq').1 _
theorem open_times {k : Nat} (hk : 0 < k) {f : F} (h : isOpen f = true) : isOpen (timesF k (0 :: f.tail)) = true := by
  obtain ⟨x, hx, h0⟩ := isOpen_iff.mp h
  refine isOpen_iff.mpr ⟨k * x, List.mem_map.mpr ⟨x, hx, rfl⟩, ?_⟩
  have := Nat.mul_pos hk (Nat.pos_of_ne_zero h0)
  omega
theorem root_times {w : W} (h : w ≠ []) : 0 < w.length / rootN w := Nat.div_pos (rootN_le h) (rootN_pos h)
theorem nm_stepA {m : Nat} {acc : List Pn} (h : Nm m acc) {p : Pn} (hl : p.2.length = m + 1) : Nm m (stepA acc p) := by
  unfold stepA
  split
  · next z =>
    refine nm_putP h (root_prim z.1) ?_ ?_ (open_times (root_times z.1) z.2)
    · unfold timesF
      simp [hl]
    · simp [timesF]
  · exact h
theorem nm_stepB {m : Nat} {acc : List Pn} (h : Nm m acc) {p : Pn} (hl : p.2.length = m + 1) : Nm m (stepB acc p) := by
  unfold stepB
  split
  · have e : p.2.length - 1 = m := by omega
    rw [e]
    exact nm_joinF h _
  · exact h
theorem nm_fold {m : Nat} : ∀ (ps acc : List Pn), Nm m acc → LenF m ps → Nm m (ps.foldl stepN acc)
  | [], _, h, _ => h
  | p :: r, acc, h, hl => nm_fold r _ (nm_stepB (nm_stepA h (hl p List.mem_cons_self)) (hl p List.mem_cons_self)) fun q hq => hl q (List.mem_cons_of_mem _ hq)
theorem nm_normL {m : Nat} {ps : List Pn} (h : LenF m ps) : Nm m (normL ps) := nm_fold ps [] .nil h
theorem Nm.lenF {m : Nat} {ps : List Pn} (h : Nm m ps) : LenF m ps := fun p hp => (h.all p hp).len
theorem Nm.fixOk {m : Nat} {ps : List Pn} (h : Nm m ps) : FixOk m ps := fun p hp => (h.all p hp).fix
/-! ### what is written stays -/
theorem wr_putP {m : Nat} {acc : List Pn} (h : Nm m acc) {u : W} {f : F} (hu : Prim u) (hl : f.length = m + 1) (h0 : f.headD 0 = 0) (ho : isOpen f = true) (pt : List Nat) : wr pt (putP acc u f) = wr pt acc ++ wrt pt (u, f) := by
  have em : f.length - 1 = m := by omega
  have one : ∀ {acc : List Pn}, Nm m acc → (∀ q, acc.getLast? = some q → isPow q = true) → wr pt (joinF (pushP acc u f) [] m) = wr pt acc ++ wrt pt (u, f) := fun {acc} h hp => by
    obtain ⟨n, g, hg, pg⟩ := nm_pushP h hu hl h0 ho fun q' hq' z => by rw [hp q' hq'] at z; cases z
    rw [joinF_nil hg pg, wr_pushP h.lenF hl]
  unfold putP
  rw [em]
  split
  · next q hq =>
    split
    · next pq => exact one h fun q' hq' => by rw [hq] at hq'; cases hq'; exact pq
    · next pq =>
      have pq' : isPow q = false := by simpa using pq
      have e := last_split hq
      have mq := h.all q (List.mem_of_getLast? hq)
      have wq : wrt pt q = q.1 := by unfold wrt; rw [mq.fix pq', val_one, pw_one]
      have n1 := nm_joinF h.init (q.1.take (q.1.length - movedE q.1 u)) (m := m)
      have n2 : Nm m (putP acc u f) := nm_putP h hu hl h0 ho
      have l2 : FixOk m (pushP (joinF acc.dropLast (q.1.take (q.1.length - movedE q.1 u)) m) (rotR u (movedE q.1 u)) f) := by
        intro p hp z
        unfold pushP at hp
        have pr : isPow (rotR u (movedE q.1 u), f) = true := decide_eq_true h0
        split at hp
        · next r hr =>
          split at hp
          · next y =>
            rcases List.mem_append.mp hp with x | x
            · exact n1.fixOk p (mem_dropLast x) z
            · rw [List.mem_singleton.mp x] at z
              have : isPow (rotR u (movedE q.1 u), addF r.2 f) = true := decide_eq_true (head_add (by rw [n1.lenF r (List.mem_of_getLast? hr), hl]) (of_decide_eq_true y.1) h0)
              rw [this] at z
              cases z
          · rcases List.mem_append.mp hp with x | x
            · exact n1.fixOk p x z
            · rw [List.mem_singleton.mp x, pr] at z
              cases z
        · rcases List.mem_append.mp hp with x | x
          · exact n1.fixOk p x z
          · rw [List.mem_singleton.mp x, pr] at z
            cases z
      rw [wr_joinF l2, wr_pushP n1.lenF hl, wr_joinF h.init.fixOk]
      have ew : wr pt acc = wr pt acc.dropLast ++ q.1 := by
        conv => lhs; rw [e]
        rw [wr_app, wr_one, wq]
      rw [ew, moved_drop hu.1]
      have mv := move_pw u (movedE q.1 u) (valF f pt)
      rw [List.append_assoc, List.append_assoc, List.append_assoc]
      congr 1
      show q.1.take _ ++ (pw (rotR u (movedE q.1 u)) (valF f pt) ++ tailE u (movedE q.1 u)) = q.1 ++ pw u (valF f pt)
      rw [mv, ← moved_drop hu.1, ← List.append_assoc, List.take_append_drop]
  · next hn => exact one h fun q' hq' => by rw [hn] at hq'; cases hq'
theorem pw_mul (w : W) (a : Nat) : ∀ b, pw (pw w a) b = pw w (a * b)
  | 0 => by simp [pw]
  | b + 1 => by rw [pw_succ, pw_mul w a b, ← pw_add, Nat.mul_succ, Nat.add_comm]
theorem pw_nil (n : Nat) : pw [] n = [] := List.length_eq_zero_iff.mp (by rw [pw_len]; simp)
theorem val_split (f : F) (pt : List Nat) : valF f pt = valF (0 :: f.tail) pt + f.headD 0 := by
  unfold valF
  simp
  omega
theorem dot_closed : ∀ {f : List Nat}, (∀ x ∈ f, x = 0) → ∀ pt : List Nat, dot f pt = 0
  | [], _, _ => by simp [dot]
  | x :: f, h, [] => by simp [dot]
  | x :: f, h, y :: pt => by
    rw [dot, dot_closed (fun z hz => h z (List.mem_cons_of_mem _ hz)) pt, h x List.mem_cons_self]
    simp
theorem wr_stepN {m : Nat} {acc : List Pn} (h : Nm m acc) {p : Pn} (hl : p.2.length = m + 1) (pt : List Nat) : wr pt (stepN acc p) = wr pt acc ++ wrt pt p := by
  have hA := nm_stepA h hl
  have wA : wr pt (stepA acc p) = wr pt acc ++ pw p.1 (valF (0 :: p.2.tail) pt) := by
    unfold stepA
    split
    · next z =>
      have lt : (timesF (p.1.length / rootN p.1) (0 :: p.2.tail)).length = m + 1 := by unfold timesF; simp [hl]
      rw [wr_putP h (root_prim z.1) lt (by simp [timesF]) (open_times (root_times z.1) z.2)]
      congr 1
      show pw (p.1.take (rootN p.1)) (valF (timesF _ _) pt) = _
      rw [val_times, ← pw_mul, ← root_pw z.1]
    · next z =>
      by_cases ne : p.1 = []
      · rw [ne, pw_nil, List.append_nil]
      · have hc : ∀ x ∈ p.2.tail, x = 0 := fun x hx => Classical.byContradiction fun y => z ⟨ne, isOpen_iff.mpr ⟨x, hx, y⟩⟩
        rw [show valF (0 :: p.2.tail) pt = 0 by unfold valF; simp [dot_closed hc], pw_zero, List.append_nil]
  have wB : wr pt (stepB (stepA acc p) p) = wr pt (stepA acc p) ++ pw p.1 (p.2.headD 0) := by
    unfold stepB
    split
    · have e : p.2.length - 1 = m := by omega
      rw [e, wr_joinF hA.fixOk]
    · next z =>
      by_cases ne : p.1 = []
      · rw [ne, pw_nil, List.append_nil]
      · have : p.2.headD 0 = 0 := Classical.byContradiction fun y => z ⟨ne, y⟩
        rw [this, pw_zero, List.append_nil]
  unfold stepN
  rw [wB, wA, List.append_assoc, ← pw_add, ← val_split]
  rfl
theorem wr_fold {m : Nat} (pt : List Nat) : ∀ (ps acc : List Pn), Nm m acc → LenF m ps → wr pt (ps.foldl stepN acc) = wr pt acc ++ wr pt ps
  | [], acc, _, _ => by simp [wr]
  | p :: r, acc, h, hl => by
    have lp := hl p List.mem_cons_self
    rw [List.foldl_cons, show stepN acc p = stepB (stepA acc p) p from rfl, wr_fold pt r _ (nm_stepB (nm_stepA h lp) lp) (fun q hq => hl q (List.mem_cons_of_mem _ hq)), show stepB (stepA acc p) p = stepN acc p from rfl, wr_stepN h lp, List.append_assoc]
    rfl
/-- the normal list writes the same -/
theorem wr_normL {m : Nat} {ps : List Pn} (h : LenF m ps) (pt : List Nat) : wr pt (normL ps) = wr pt ps := wr_fold pt ps [] .nil h
end NM

set_option linter.all false
set_option maxRecDepth 100000
namespace NM
open WM
/-! ### the measure -/
def measP (p : Pn) : Nat := p.1.length * (p.2.headD 0 + (if isOpen p.2 then 1 else 0))
def meas (ps : List Pn) : Nat := (ps.map measP).sum
theorem meas_app (a b : List Pn) : meas (a ++ b) = meas a + meas b := by unfold meas; rw [List.map_append, List.sum_append]
theorem meas_one (p : Pn) : meas [p] = measP p := by simp [meas]
theorem open_one (m : Nat) : isOpen (one1 m) = false := by
  unfold isOpen one1
  rw [List.any_eq_false]
  intro x hx
  have := List.eq_of_mem_replicate (show x ∈ List.replicate m 0 from hx)
  simp [this]
theorem measP_fix (w : W) (m : Nat) : measP (fixP w m) = w.length := by
  unfold measP fixP
  simp only [open_one]
  simp [one1]
theorem meas_last {l : List Pn} {q : Pn} (h : l.getLast? = some q) : meas l = meas l.dropLast + measP q := by
  conv => lhs; rw [last_split h]
  rw [meas_app, meas_one]
theorem meas_joinF {m : Nat} {acc : List Pn} (h : FixOk m acc) (w : W) : meas (joinF acc w m) = meas acc + w.length := by
  unfold joinF
  split
  · next q hq =>
    split
    · split
      · next z => rw [z]; rfl
      · rw [meas_app, meas_one, measP_fix]
    · next np =>
      have f1 := h q (List.mem_of_getLast? hq) (by simpa using np)
      have mq : measP q = q.1.length := by
        have : q = fixP q.1 m := by unfold fixP; rw [← f1]
        conv => lhs; rw [this]
        rw [measP_fix]
      have ml := meas_last hq
      split
      · next z =>
        have z1 := congrArg List.length z
        rw [List.length_append, List.length_nil] at z1
        omega
      · rw [meas_app, meas_one, measP_fix, List.length_append]
        omega
  · split
    · next z => rw [z]; rfl
    · rw [meas_app, meas_one, measP_fix]
theorem measP_pow {u : W} {f : F} (h0 : f.headD 0 = 0) : measP (u, f) ≤ u.length := by
  unfold measP
  simp only [h0, Nat.zero_add]
  split
  · rw [Nat.mul_one]
    exact Nat.le_refl _
  · rw [Nat.mul_zero]
    exact Nat.zero_le _
theorem meas_pushP {acc : List Pn} {u : W} {f : F} (h0 : f.headD 0 = 0) (hx : ∀ q, acc.getLast? = some q → isPow q = true → q.1 = u → (addF q.2 f).headD 0 = 0 ∧ u.length ≤ measP q) : meas (pushP acc u f) ≤ meas acc + u.length := by
  unfold pushP
  split
  · next q hq =>
    have ml := meas_last hq
    split
    · next z =>
      obtain ⟨a, b⟩ := hx q hq z.1 z.2
      have := measP_pow (u := u) a
      rw [meas_app, meas_one]
      omega
    · have := measP_pow (u := u) h0
      rw [meas_app, meas_one]
      omega
  · have := measP_pow (u := u) h0
    rw [meas_app, meas_one]
    omega
theorem measP_le {m : Nat} {q : Pn} (h : NormP m q) : q.1.length ≤ measP q := by
  unfold measP
  cases e : isPow q with
  | false =>
    rw [h.fix e]
    simp [one1]
    exact Nat.le_mul_of_pos_right _ (by omega)
  | true =>
    rw [if_pos (h.pow e).2]
    exact Nat.le_mul_of_pos_right _ (by omega)
theorem meas_pushN {m : Nat} {acc : List Pn} (h : Nm m acc) {u : W} {f : F} (hl : f.length = m + 1) (h0 : f.headD 0 = 0) : meas (pushP acc u f) ≤ meas acc + u.length :=
  meas_pushP h0 fun q hq pq e => by
    have nq := h.all q (List.mem_of_getLast? hq)
    refine ⟨head_add (by rw [nq.len, hl]) (of_decide_eq_true pq) h0, ?_⟩
    rw [← e]
    exact measP_le nq
theorem fix_pushP {m : Nat} {acc : List Pn} (h : Nm m acc) {u : W} {f : F} (hl : f.length = m + 1) (h0 : f.headD 0 = 0) : FixOk m (pushP acc u f) := by
  intro p hp z
  unfold pushP at hp
  have pr : isPow (u, f) = true := decide_eq_true h0
  split at hp
  · next r hr =>
    split at hp
    · next y =>
      rcases List.mem_append.mp hp with x | x
      · exact h.fixOk p (mem_dropLast x) z
      · rw [List.mem_singleton.mp x] at z
        have : isPow (u, addF r.2 f) = true := decide_eq_true (head_add (by rw [h.lenF r (List.mem_of_getLast? hr), hl]) (of_decide_eq_true y.1) h0)
        rw [this] at z
        cases z
    · rcases List.mem_append.mp hp with x | x
      · exact h.fixOk p x z
      · rw [List.mem_singleton.mp x, pr] at z
        cases z
  · rcases List.mem_append.mp hp with x | x
    · exact h.fixOk p x z
    · rw [List.mem_singleton.mp x, pr] at z
      cases z
theorem meas_putP {m : Nat} {acc : List Pn} (h : Nm m acc) {u : W} {f : F} (hl : f.length = m + 1) (h0 : f.headD 0 = 0) : meas (putP acc u f) ≤ meas acc + u.length := by
  have em : f.length - 1 = m := by omega
  have one : ∀ {acc : List Pn}, Nm m acc → meas (joinF (pushP acc u f) [] m) ≤ meas acc + u.length := fun {acc} h => by
    rw [meas_joinF (fix_pushP h hl h0)]
    exact meas_pushN h hl h0
  unfold putP
  rw [em]
  split
  · next q hq =>
    split
    · exact one h
    · next pq =>
      have pq' : isPow q = false := by simpa using pq
      have mq := h.all q (List.mem_of_getLast? hq)
      have e : measP q = q.1.length := by
        have : q = fixP q.1 m := by unfold fixP; rw [← mq.fix pq']
        conv => lhs; rw [this]
        rw [measP_fix]
      have ml := meas_last hq
      have n1 := nm_joinF h.init (q.1.take (q.1.length - movedE q.1 u)) (m := m)
      rw [meas_joinF (fix_pushP n1 hl h0)]
      have a := meas_pushN n1 (u := rotR u (movedE q.1 u)) hl h0
      rw [meas_joinF h.init.fixOk, List.length_take, rotR_len] at a
      rw [List.length_drop]
      have := movedE_le q.1 u
      omega
  · exact one h
theorem meas_stepN {m : Nat} {acc : List Pn} (h : Nm m acc) {p : Pn} (hl : p.2.length = m + 1) : meas (stepN acc p) ≤ meas acc + measP p := by
  have hA := nm_stepA h hl
  have a : meas (stepA acc p) ≤ meas acc + p.1.length * (if isOpen p.2 then 1 else 0) := by
    unfold stepA
    split
    · next z =>
      have lt : (timesF (p.1.length / rootN p.1) (0 :: p.2.tail)).length = m + 1 := by unfold timesF; simp [hl]
      have := meas_putP h (u := p.1.take (rootN p.1)) lt (by simp [timesF])
      rw [if_pos z.2]
      rw [List.length_take] at this
      omega
    · omega
  have b : meas (stepB (stepA acc p) p) ≤ meas (stepA acc p) + p.1.length * p.2.headD 0 := by
    unfold stepB
    split
    · have e : p.2.length - 1 = m := by omega
      rw [e, meas_joinF hA.fixOk, pw_len]
      exact Nat.le_refl _
    · omega
  unfold stepN measP
  rw [Nat.mul_add]
  omega
theorem meas_fold {m : Nat} : ∀ (ps acc : List Pn), Nm m acc → LenF m ps → meas (ps.foldl stepN acc) ≤ meas acc + meas ps
  | [], acc, _, _ => by simp [meas]
  | p :: r, acc, h, hl => by
    have lp := hl p List.mem_cons_self
    have a := meas_stepN h lp
    have b := meas_fold r (stepN acc p) (nm_stepB (nm_stepA h lp) lp) fun q hq => hl q (List.mem_cons_of_mem _ hq)
    rw [List.foldl_cons]
    have : meas (p :: r) = measP p + meas r := by simp [meas]
    omega
theorem meas_normL {m : Nat} {ps : List Pn} (h : LenF m ps) : meas (normL ps) ≤ meas ps := by
  have := meas_fold ps [] (Nm.nil (m := m)) h
  unfold normL
  have e : meas [] = 0 := rfl
  omega
/-! ### a normal list stays -/
theorem joinF_app {m : Nat} {acc : List Pn} {w : W} (hw : w ≠ []) (h : ∀ q, acc.getLast? = some q → isPow q = true) : joinF acc w m = acc ++ [fixP w m] := by
  unfold joinF
  split
  · next q hq => rw [if_pos (h q hq), if_neg hw]
  · rw [if_neg hw]
theorem pushP_app {acc : List Pn} {u : W} {f : F} (h : ∀ q, acc.getLast? = some q → ¬ (isPow q = true ∧ q.1 = u)) : pushP acc u f = acc ++ [(u, f)] := by
  unfold pushP
  split
  · next q hq => rw [if_neg (h q hq)]
  · rfl
theorem prim_root {w : W} (h : Prim w) : rootN w = w.length := h.2 _ (rootN_pos h.1) (rootN_dvd w) (rootN_per w)
theorem times_one {f : F} (h : f.headD 0 = 0) (hl : 0 < f.length) : timesF 1 (0 :: f.tail) = f := by
  cases f with
  | nil => simp at hl
  | cons a f =>
    simp only [List.headD_cons] at h
    subst h
    simp [timesF]
theorem step_fix {m : Nat} {l : List Pn} {p : Pn} (h : Nm m l) (hp : NormP m p) (ha : ∀ q, l.getLast? = some q → Adj q p) : stepN l p = l ++ [p] := by
  cases e : isPow p with
  | false =>
    have f1 := hp.fix e
    have ep : fixP p.1 m = p := by unfold fixP; rw [← f1]
    have no : isOpen p.2 = false := by rw [f1, open_one]
    have h1 : p.2.headD 0 = 1 := by rw [f1]; rfl
    have eA : stepA l p = l := by
      unfold stepA
      rw [if_neg fun z => by rw [no] at z; exact Bool.false_ne_true z.2]
    unfold stepN
    rw [eA]
    unfold stepB
    rw [if_pos ⟨hp.ne, by rw [h1]; decide⟩, h1, pw_one, show p.2.length - 1 = m by rw [hp.len]; rfl, joinF_app hp.ne fun q hq => ?_, ep]
    cases y : isPow q with
    | true => rfl
    | false =>
      have := ((ha q hq).fix y).1
      rw [e] at this
      cases this
  | true =>
    obtain ⟨pr, op⟩ := hp.pow e
    have h0 : p.2.headD 0 = 0 := of_decide_eq_true e
    have n0 := List.length_pos_iff.mpr hp.ne
    have eA : stepA l p = putP l p.1 p.2 := by
      unfold stepA
      rw [if_pos ⟨hp.ne, op⟩, prim_root pr, List.take_length, Nat.div_self n0, times_one h0 (by rw [hp.len]; omega)]
    have eB : ∀ acc, stepB acc p = acc := fun acc => by
      unfold stepB
      rw [if_neg fun z => z.2 h0]
    have last : ∀ l : List Pn, (l ++ [p]).getLast? = some p := fun l => by simp
    unfold stepN
    rw [eB, eA]
    unfold putP
    rw [show p.2.length - 1 = m by rw [hp.len]; rfl]
    split
    · next q hq =>
      have a := ha q hq
      split
      · next pq =>
        rw [pushP_app fun q' hq' => by rw [hq] at hq'; cases hq'; exact fun z => a.pow pq e z.2]
        exact joinF_nil (last l) e
      · next pq =>
        have pq' : isPow q = false := by simpa using pq
        have mq := h.all q (List.mem_of_getLast? hq)
        have mz : movedE q.1 p.1 = 0 := moved_zero hp.ne mq.ne (a.fix pq').2
        have el : joinF l.dropLast q.1 m = l := by
          rw [joinF_app mq.ne fun r hr => ?_]
          · have : fixP q.1 m = q := by unfold fixP; rw [← mq.fix pq']
            rw [this]
            exact (last_split hq).symm
          · have b := h.pre hq hr
            cases y : isPow r with
            | true => rfl
            | false =>
              have := (b.fix y).1
              rw [pq'] at this
              cases this
        rw [mz, Nat.sub_zero, List.take_length, List.drop_length, rotR_zero, el, pushP_app fun q' hq' => by rw [hq] at hq'; cases hq'; exact fun z => pq z.1]
        exact joinF_nil (last l) e
    · next hn =>
      rw [pushP_app fun q' hq' => by rw [hn] at hq'; cases hq']
      exact joinF_nil (last l) e
theorem Nm.take {m : Nat} {l : List Pn} (h : Nm m l) (i : Nat) : Nm m (l.take i) := by
  refine ⟨fun p hp => h.all p (List.mem_of_mem_take hp), fun j p q hj hq => ?_⟩
  rw [List.getElem?_take] at hj hq
  split at hq
  · split at hj
    · exact h.adj j p q hj hq
    · cases hj
  · cases hq
theorem normL_take {m : Nat} {ps : List Pn} (h : Nm m ps) : ∀ i, i ≤ ps.length → normL (ps.take i) = ps.take i
  | 0, _ => by simp [normL]
  | i + 1, hi => by
    have hp := List.getElem?_eq_getElem (show i < ps.length by omega)
    generalize ps[i] = p at hp
    have e : ps.take (i + 1) = ps.take i ++ [p] := by rw [List.take_succ, hp]; rfl
    rw [e]
    unfold normL
    rw [List.foldl_append]
    have := normL_take h i (by omega)
    unfold normL at this
    rw [this]
    refine step_fix (h.take i) (h.all p (List.mem_of_getElem? hp)) fun q hq => ?_
    rw [List.getLast?_eq_getElem?, List.length_take, Nat.min_eq_left (by omega)] at hq
    rw [List.getElem?_take] at hq
    split at hq
    · refine h.adj (i - 1) q p hq ?_
      rw [show i - 1 + 1 = i by omega]
      exact hp
    · cases hq
/-- a normal list is its own -/
theorem normL_id {m : Nat} {ps : List Pn} (h : Nm m ps) : normL ps = ps := by
  have := normL_take h ps.length (Nat.le_refl _)
  rw [List.take_length] at this
  exact this
end NM

set_option linter.all false
set_option maxRecDepth 100000
namespace NM
open WM
/-! ### a word is no power exactly if it stands in itself doubled, without the first letter, at the end first -/
/-- w stands at the place k + 1 of w w -/
def Occ (w : W) (k : Nat) : Prop := ((w ++ w).drop (k + 1)).take w.length = w
theorem dbl_get {w : W} (h : w ≠ []) {i : Nat} (hi : i < 2 * w.length) : (w ++ w)[i]? = w[i % w.length]? := by
  have n0 := List.length_pos_iff.mpr h
  by_cases z : i < w.length
  · rw [List.getElem?_append_left z, Nat.mod_eq_of_lt z]
  · rw [List.getElem?_append_right (by omega), Nat.mod_eq_sub_mod (show i ≥ w.length by omega), Nat.mod_eq_of_lt (by omega)]
theorem occ_get {w : W} (h : w ≠ []) {k : Nat} (hk : k + 1 ≤ w.length) : Occ w k ↔ ∀ i, i < w.length → w[(k + 1 + i) % w.length]? = w[i]? := by
  unfold Occ
  constructor
  · intro e i hi
    have : (((w ++ w).drop (k + 1)).take w.length)[i]? = w[i]? := by rw [e]
    rw [List.getElem?_take_of_lt hi, List.getElem?_drop, dbl_get h (by omega)] at this
    exact this
  · intro e
    refine List.ext_getElem? fun i => ?_
    by_cases hi : i < w.length
    · rw [List.getElem?_take_of_lt hi, List.getElem?_drop, dbl_get h (by omega)]
      exact e i hi
    · rw [List.getElem?_eq_none (by rw [List.length_take]; omega), List.getElem?_eq_none (by omega)]
theorem occ_last {w : W} (h : w ≠ []) : Occ w (w.length - 1) := by
  have n0 := List.length_pos_iff.mpr h
  refine (occ_get h (by omega)).mpr fun i hi => ?_
  rw [show w.length - 1 + 1 + i = i + w.length by omega, Nat.add_mod_right, Nat.mod_eq_of_lt hi]
/-- an earlier place makes a shorter period -/
theorem occ_not_prim {w : W} (h : w ≠ []) {k : Nat} (hk : k + 1 < w.length) (o : Occ w k) : ¬ Prim w := by
  intro pr
  have n0 := List.length_pos_iff.mpr h
  have e := (occ_get h (by omega)).mp o
  -- the word doubled has the periods k + 1 and its half
  have dl : (w ++ w).length = 2 * w.length := by rw [List.length_append]; omega
  have p1 : Per (k + 1) (w ++ w) := fun i hi => by
    rw [dl] at hi
    rw [dbl_get h (by omega), dbl_get h hi]
    have := e (i % w.length) (Nat.mod_lt _ n0)
    rw [← this]
    congr 1
    rw [Nat.add_mod_mod, Nat.add_comm]
  have p2 : Per w.length (w ++ w) := fun i hi => by
    rw [dl] at hi
    rw [dbl_get h (by omega), dbl_get h hi, Nat.add_mod_right]
  have g := per_gcd p1 p2 (by rw [dl]; omega)
  have gp : 0 < Nat.gcd (k + 1) w.length := Nat.gcd_pos_of_pos_left _ (by omega)
  have gd : Nat.gcd (k + 1) w.length ∣ w.length := Nat.gcd_dvd_right _ _
  have gl : Nat.gcd (k + 1) w.length ≤ k + 1 := Nat.le_of_dvd (by omega) (Nat.gcd_dvd_left _ _)
  have pw' : Per (Nat.gcd (k + 1) w.length) w := by
    have := per_take (k := w.length) g
    rw [List.take_left] at this
    exact this
  have := pr.2 _ gp gd pw'
  omega
theorem not_prim_occ {w : W} (h : w ≠ []) (np : ¬ Prim w) : ∃ k, k + 1 < w.length ∧ Occ w k := by
  have n0 := List.length_pos_iff.mpr h
  have : ∃ d, 0 < d ∧ d ∣ w.length ∧ Per d w ∧ d ≠ w.length := Classical.byContradiction fun z => np ⟨h, fun d h1 h2 h3 => Classical.byContradiction fun y => z ⟨d, h1, h2, h3, y⟩⟩
  obtain ⟨d, h1, h2, h3, h4⟩ := this
  have dl := Nat.le_of_dvd n0 h2
  refine ⟨d - 1, by omega, (occ_get h (by omega)).mpr fun i hi => ?_⟩
  rw [show d - 1 + 1 + i = i + d by omega, per_at h1 h3 (Nat.mod_lt _ n0), per_at h1 h3 hi, Nat.mod_mod_of_dvd _ h2, Nat.add_mod_right]
/-! ### the law's rules -/
theorem isPow_one {p : Pn} {m : Nat} (h : p.2 = one1 m) : isPow p = false := by
  unfold isPow
  rw [h]
  rfl
theorem sum_zero : ∀ {l : List Nat}, l.sum = 0 ↔ ∀ x ∈ l, x = 0
  | [] => by simp
  | a :: l => by
    rw [List.sum_cons]
    constructor
    · intro h x hx
      rcases List.mem_cons.mp hx with z | z
      · omega
      · exact sum_zero.mp (show l.sum = 0 by omega) x z
    · intro h
      have a0 := h a List.mem_cons_self
      have := sum_zero.mpr fun x hx => h x (List.mem_cons_of_mem _ hx)
      omega
/-- what the law asks of a piece -/
def okP (m : Nat) (p : Pn) : Prop := (Prim p.1 ∨ p.2 = one1 m) ∧ p.1 ≠ [] ∧ (p.2 = one1 m ∨ (p.2.headD 0 = 0 ∧ p.2.sum ≠ 0))
theorem okP_iff {m : Nat} {p : Pn} (hl : p.2.length = m + 1) : okP m p ↔ NormP m p := by
  constructor
  · rintro ⟨h1, h2, h3⟩
    refine ⟨h2, hl, fun z => ?_, fun z => ?_⟩
    · rcases h3 with y | y
      · exact y
      · have : isPow p = true := decide_eq_true y.1
        rw [this] at z
        cases z
    · rcases h3 with y | y
      · rw [isPow_one y] at z
        cases z
      · have ne1 : p.2 ≠ one1 m := fun x => by rw [isPow_one x] at z; cases z
        refine ⟨h1.resolve_right ne1, ?_⟩
        cases e : isOpen p.2 with
        | true => rfl
        | false =>
          exfalso
          apply y.2
          refine sum_zero.mpr fun x hx => ?_
          cases ep : p.2 with
          | nil => rw [ep] at hx; cases hx
          | cons a f =>
            rw [ep] at hx
            rcases List.mem_cons.mp hx with w | w
            · have := y.1
              rw [ep] at this
              rw [w]
              exact this
            · refine Classical.byContradiction fun x0 => ?_
              have : isOpen p.2 = true := isOpen_iff.mpr ⟨x, by rw [ep]; exact w, x0⟩
              rw [e] at this
              cases this
  · intro h
    cases e : isPow p with
    | false => exact ⟨.inr (h.fix e), h.ne, .inl (h.fix e)⟩
    | true =>
      obtain ⟨a, b⟩ := h.pow e
      refine ⟨.inl a, h.ne, .inr ⟨of_decide_eq_true e, fun z => ?_⟩⟩
      obtain ⟨x, hx, x0⟩ := isOpen_iff.mp b
      exact x0 (sum_zero.mp z x (List.mem_of_mem_tail hx))
/-- what the law asks of two neighbours -/
def okA (m : Nat) (p q : Pn) : Prop := ¬ (p.2 = one1 m ∧ q.2 = one1 m) ∧ ¬ (p.2 ≠ one1 m ∧ q.2 ≠ one1 m ∧ p.1 = q.1) ∧ ¬ (p.2 = one1 m ∧ p.1.getLast? = q.1.getLast?)
theorem fix_iff {m : Nat} {p : Pn} (h : NormP m p) : isPow p = false ↔ p.2 = one1 m := ⟨h.fix, isPow_one⟩
theorem okA_iff {m : Nat} {p q : Pn} (hp : NormP m p) (hq : NormP m q) : okA m p q ↔ Adj p q := by
  have fp := fix_iff hp
  have fq := fix_iff hq
  constructor
  · rintro ⟨h1, h2, h3⟩
    refine ⟨fun z => ⟨?_, fun y => h3 ⟨fp.mp z, y⟩⟩, fun z y x => ?_⟩
    · cases e : isPow q with
      | true => rfl
      | false => exact absurd ⟨fp.mp z, fq.mp e⟩ h1
    · refine h2 ⟨fun w => ?_, fun w => ?_, x⟩
      · rw [fp.mpr w] at z
        cases z
      · rw [fq.mpr w] at y
        cases y
  · intro h
    refine ⟨fun z => ?_, fun z => ?_, fun z => (h.fix (fp.mpr z.1)).2 z.2⟩
    · have := (h.fix (fp.mpr z.1)).1
      rw [fq.mpr z.2] at this
      cases this
    · have e1 : isPow p = true := by
        cases e : isPow p with
        | true => rfl
        | false => exact absurd (fp.mp e) z.1
      have e2 : isPow q = true := by
        cases e : isPow q with
        | true => rfl
        | false => exact absurd (fq.mp e) z.2.1
      exact h.pow e1 e2 z.2.2
theorem nm_iff {m : Nat} {ps : List Pn} (hl : LenF m ps) : Nm m ps ↔ (∀ p ∈ ps, okP m p) ∧ ∀ (i : Nat) (p q : Pn), ps[i]? = some p → ps[i + 1]? = some q → okA m p q := by
  constructor
  · intro h
    exact ⟨fun p hp => (okP_iff (hl p hp)).mpr (h.all p hp), fun i p q hi hj => (okA_iff (h.all p (List.mem_of_getElem? hi)) (h.all q (List.mem_of_getElem? hj))).mpr (h.adj i p q hi hj)⟩
  · rintro ⟨h1, h2⟩
    have all : ∀ p ∈ ps, NormP m p := fun p hp => (okP_iff (hl p hp)).mp (h1 p hp)
    exact ⟨all, fun i p q hi hj => (okA_iff (all p (List.mem_of_getElem? hi)) (all q (List.mem_of_getElem? hj))).mp (h2 i p q hi hj)⟩
theorem normL_iff {m : Nat} {ps : List Pn} (hl : LenF m ps) : normL ps = ps ↔ Nm m ps := ⟨fun e => by rw [← e]; exact nm_normL hl, normL_id⟩
theorem wr_flat (pt : List Nat) : ∀ ps : List Pn, ((ps.filter fun p => decide (p.1 ≠ [])).map (wrt pt)).flatten = wr pt ps
  | [] => rfl
  | p :: r => by
    by_cases h : p.1 = []
    · rw [List.filter_cons_of_neg (by simp [h]), wr_flat pt r, wr]
      unfold wrt
      rw [h, pw_nil, List.nil_append]
    · rw [List.filter_cons_of_pos (by simp [h]), List.map_cons, List.flatten_cons, wr_flat pt r, wr]
theorem wrt_le {pt : List Nat} : ∀ {ps : List Pn} {p : Pn}, p ∈ ps → (wrt pt p).length ≤ (wr pt ps).length
  | q :: r, p, h => by
    rw [wr, List.length_append]
    rcases List.mem_cons.mp h with z | z
    · rw [z]
      omega
    · have := wrt_le (pt := pt) z
      omega
end NM

set_option linter.all false
set_option maxRecDepth 100000
namespace NM
open WM
/-! ### how long what is written can be -/
theorem le_sumN : ∀ {f : List Nat} {x : Nat}, x ∈ f → x ≤ f.sum
  | a :: l, x, h => by
    rw [List.sum_cons]
    rcases List.mem_cons.mp h with z | z
    · omega
    · have := le_sumN z
      omega
theorem dot_ones : ∀ (f : List Nat), dot f (List.replicate f.length 1) = f.sum
  | [] => rfl
  | a :: l => by
    rw [List.length_cons, List.replicate_succ, dot, dot_ones l, List.sum_cons]
    omega
theorem mem_val {f : F} {m x : Nat} (hl : f.length = m + 1) (hx : x ∈ f) : x ≤ valF f (List.replicate m 1) := by
  cases f with
  | nil => cases hx
  | cons a l =>
    have e : l.length = m := by simpa using hl
    unfold valF
    rw [List.tail_cons, ← e, dot_ones]
    show x ≤ a + l.sum
    rcases List.mem_cons.mp hx with z | z
    · omega
    · have := le_sumN z
      omega
theorem dot_le {B c : Nat} : ∀ (f pt : List Nat), (∀ x ∈ f, x ≤ B) → (∀ x ∈ pt, x ≤ c) → dot f pt ≤ f.length * (B * c)
  | [], _, _, _ => by simp [dot]
  | _ :: _, [], _, _ => by simp [dot]
  | x :: xs, y :: ys, h, g => by
    have a := dot_le xs ys (fun z hz => h z (List.mem_cons_of_mem _ hz)) (fun z hz => g z (List.mem_cons_of_mem _ hz))
    have b : x * y ≤ B * c := Nat.mul_le_mul (h x List.mem_cons_self) (g y List.mem_cons_self)
    rw [dot, List.length_cons, Nat.succ_mul]
    omega
theorem wr_le {pt : List Nat} {k : Nat} : ∀ ps : List Pn, (∀ p ∈ ps, (wrt pt p).length ≤ k) → (wr pt ps).length ≤ ps.length * k
  | [], _ => by simp [wr]
  | p :: r, h => by
    have a := wr_le r fun q hq => h q (List.mem_cons_of_mem _ hq)
    have b := h p List.mem_cons_self
    rw [wr, List.length_append, List.length_cons, Nat.succ_mul]
    omega
theorem val_le3 {f : F} {pt : List Nat} {m : Nat} (hl : f.length = m + 1) (hm : m ≤ 3) (hf : ∀ x ∈ f, x ≤ 3) (hp : ∀ x ∈ pt, x ≤ 3) : valF f pt ≤ 30 := by
  cases f with
  | nil => simp at hl
  | cons a l =>
    have e : l.length = m := by simpa using hl
    have d := dot_le (B := 3) (c := 3) l pt (fun x hx => hf x (List.mem_cons_of_mem _ hx)) hp
    have h0 := hf a List.mem_cons_self
    have : l.length * (3 * 3) ≤ 3 * 9 := Nat.mul_le_mul (by omega) (by decide)
    unfold valF
    show a + dot l pt ≤ 30
    omega
theorem wrt_le3 {p : Pn} {pt : List Nat} {m : Nat} (hl : p.2.length = m + 1) (hm : m ≤ 3) (hw : p.1.length ≤ 12) (hf : ∀ x ∈ p.2, x ≤ 3) (hp : ∀ x ∈ pt, x ≤ 3) : (wrt pt p).length ≤ 360 := by
  have v := val_le3 hl hm hf hp
  have e : (wrt pt p).length = p.1.length * valF p.2 pt := pw_len _ _
  rw [e]
  exact Nat.mul_le_mul hw v
theorem meas_le {k : Nat} : ∀ ps : List Pn, (∀ p ∈ ps, measP p ≤ k) → meas ps ≤ ps.length * k
  | [], _ => by simp [meas]
  | p :: r, h => by
    have a := meas_le r fun q hq => h q (List.mem_cons_of_mem _ hq)
    have b := h p List.mem_cons_self
    have e : meas (p :: r) = measP p + meas r := by simp [meas]
    rw [e, List.length_cons, Nat.succ_mul]
    omega
theorem measP_le48 {p : Pn} {m : Nat} (hl : p.2.length = m + 1) (hw : p.1.length ≤ 12) (hf : ∀ x ∈ p.2, x ≤ 3) : measP p ≤ 48 := by
  have h0 : p.2.headD 0 ≤ 3 := by
    cases e : p.2 with
    | nil => rw [e] at hl; simp at hl
    | cons a l => exact hf a (by rw [e]; exact List.mem_cons_self)
  unfold measP
  have : p.2.headD 0 + (if isOpen p.2 = true then 1 else 0) ≤ 4 := by split <;> omega
  exact Nat.mul_le_mul hw this
/-- the numbers of a normal list are no greater than what it writes at ones -/
theorem num_le {m k : Nat} {ps : List Pn} (h : LenF m ps) (hk : (wr (List.replicate m 1) ps).length ≤ k) {p : Pn} (hp : p ∈ normL ps) {x : Nat} (hx : x ∈ p.2) : x ≤ k := by
  have nm := nm_normL h
  have np := nm.all p hp
  have n0 := List.length_pos_iff.mpr np.ne
  have a := mem_val np.len hx
  have b := wrt_le (pt := List.replicate m 1) hp
  rw [wr_normL h] at b
  have e : (wrt (List.replicate m 1) p).length = p.1.length * valF p.2 (List.replicate m 1) := pw_len _ _
  have c : valF p.2 (List.replicate m 1) ≤ p.1.length * valF p.2 (List.replicate m 1) := Nat.le_mul_of_pos_left _ n0
  omega
/-! ### lists that are spoilt -/
theorem nm_mem {m : Nat} {ps : List Pn} {p : Pn} (hp : p ∈ ps) (h : ¬ NormP m p) : ¬ Nm m ps := fun z => h (z.all p hp)
theorem norm_empty {m : Nat} {f : F} : ¬ NormP m ([], f) := fun z => z.ne rfl
theorem norm_zeros {m : Nat} {w : W} : ¬ NormP m (w, 0 :: List.replicate m 0) := fun z => by
  have a := (z.pow rfl).2
  obtain ⟨x, hx, h⟩ := isOpen_iff.mp a
  exact h (List.eq_of_mem_replicate hx)
/-! ### a fixed piece, a letter's power, a fixed piece -/
theorem prim_one (c : Nat) : Prim [c] := ⟨by simp, fun d h1 h2 _ => by
  have := Nat.le_of_dvd (by simp) h2
  simp at this ⊢
  omega⟩
def longP (m a b c i j : Nat) : List Pn := [(List.replicate i a, one1 m), ([b], 0 :: 1 :: List.replicate (m - 1) 0), (List.replicate j c, one1 m)]
theorem nm_long {m a b c i j : Nat} (hm : 1 ≤ m) (hab : a ≠ b) (hi : 0 < i) (hj : 0 < j) : Nm m (longP m a b c i j) := by
  have l2 : (0 :: 1 :: List.replicate (m - 1) 0).length = m + 1 := by simp; omega
  refine ⟨fun p hp => ?_, fun k p q hk hk' => ?_⟩
  · rcases List.mem_cons.mp hp with z | z
    · rw [z]
      exact fixP_norm (fun y => by have := congrArg List.length y; simp at this; omega)
    rcases List.mem_cons.mp z with z | z
    · rw [z]
      exact (pow_norm (prim_one b) l2 rfl rfl).1
    · rw [List.mem_singleton.mp z]
      exact fixP_norm (fun y => by have := congrArg List.length y; simp at this; omega)
  · match k, hk, hk' with
    | 0, hk, hk' =>
      cases hk
      cases hk'
      refine ⟨fun _ => ⟨rfl, fun y => hab ?_⟩, fun z => by cases z⟩
      have e1 : (List.replicate i a).getLast? = some a := by
        rw [List.getLast?_eq_getElem?, List.length_replicate, List.getElem?_replicate, if_pos (by omega)]
      have y' : (List.replicate i a).getLast? = [b].getLast? := y
      rw [e1] at y'
      simpa using y'
    | 1, hk, hk' =>
      cases hk
      cases hk'
      exact ⟨fun z => (by cases z), fun _ z => (by cases z)⟩
    | 2, hk, hk' => simp [longP] at hk'
    | (k + 3), hk, hk' => simp [longP] at hk
theorem meas_long {m a b c i j : Nat} (hm : 1 ≤ m) : meas (longP m a b c i j) = i + 1 + j := by
  have h1 : ∀ (w : W), measP (w, one1 m) = w.length := fun w => measP_fix w m
  have h2 : measP ([b], 0 :: 1 :: List.replicate (m - 1) 0) = 1 := rfl
  unfold longP meas
  simp [h1, h2]
  omega
end NM

set_option linter.all false
set_option maxRecDepth 100000
/-! two normal lists that write the same word at enough points are the same -/
namespace NM
open WM
theorem gcd_last {a b : Nat} (ha : 0 < a) (hb : 0 < b) : (a - 1) % Nat.gcd a b = (b - 1) % Nat.gcd a b := by
  have g0 : 0 < Nat.gcd a b := Nat.gcd_pos_of_pos_left _ ha
  have key : ∀ c, 0 < c → Nat.gcd a b ∣ c → (c - 1) % Nat.gcd a b = Nat.gcd a b - 1 := fun c hc hd => by
    obtain ⟨k, rfl⟩ := hd
    cases k with
    | zero => simp at hc
    | succ k =>
      rw [Nat.mul_succ, show Nat.gcd a b * k + Nat.gcd a b - 1 = Nat.gcd a b * k + (Nat.gcd a b - 1) by omega, Nat.mul_add_mod, Nat.mod_eq_of_lt (by omega)]
  rw [key a ha (Nat.gcd_dvd_left _ _), key b hb (Nat.gcd_dvd_right _ _)]
theorem app_get {α : Type} {A B : List α} {i : Nat} (h : i < A.length) : (A ++ B)[i]? = A[i]? := List.getElem?_append_left h
/-- letters ahead of a power that go on with another power could have been moved -/
theorem turn_last {u v x A B : W} {i j : Nat} (hu : u ≠ []) (hv : v ≠ []) (hx : x ≠ []) (h : pw u i ++ A = x ++ (pw v j ++ B)) (hi : x.length + u.length + v.length ≤ u.length * i) (hj : u.length + v.length ≤ v.length * j) : x.getLast? = v.getLast? := by
  have u0 := List.length_pos_iff.mpr hu
  have v0 := List.length_pos_iff.mpr hv
  have x0 := List.length_pos_iff.mpr hx
  have lu : (pw u i).length = u.length * i := pw_len _ _
  have lv : (pw v j).length = v.length * j := pw_len _ _
  have left : ∀ k, k < x.length + u.length + v.length → (x ++ (pw v j ++ B))[k]? = u[k % u.length]? := fun k hk => by
    rw [← h, app_get (by omega), pw_get hu i k (by omega)]
  have right : ∀ k, k < u.length + v.length → (x ++ (pw v j ++ B))[x.length + k]? = (pw v j)[k]? := fun k hk => by
    rw [List.getElem?_append_right (by omega), show x.length + k - x.length = k by omega, app_get (by omega)]
  have lz : ((pw v j).take (u.length + v.length)).length = u.length + v.length := by rw [List.length_take]; omega
  have zget : ∀ k, k < u.length + v.length → ((pw v j).take (u.length + v.length))[k]? = (pw v j)[k]? := fun k hk => List.getElem?_take_of_lt hk
  have p1 : Per v.length ((pw v j).take (u.length + v.length)) := per_take (pw_per hv j)
  have p2 : Per u.length ((pw v j).take (u.length + v.length)) := fun k hk => by
    rw [lz] at hk
    rw [zget k (by omega), zget (k + u.length) hk, ← right k (by omega), ← right (k + u.length) hk, left _ (by omega), left _ (by omega)]
    congr 1
    rw [← Nat.add_assoc, Nat.add_mod_right]
  have pd := per_gcd p2 p1 (by rw [lz]; exact Nat.le_refl _)
  have d0 : 0 < Nat.gcd u.length v.length := Nat.gcd_pos_of_pos_left _ u0
  have a1 := per_at d0 pd (i := u.length - 1) (by rw [lz]; omega)
  have a2 := per_at d0 pd (i := v.length - 1) (by rw [lz]; omega)
  rw [gcd_last u0 v0, ← a2] at a1
  have e1 : x.getLast? = (x ++ (pw v j ++ B))[x.length - 1]? := by
    rw [List.getLast?_eq_getElem?, app_get (by omega)]
  have e2 : (x ++ (pw v j ++ B))[x.length - 1]? = (x ++ (pw v j ++ B))[x.length + (u.length - 1)]? := by
    rw [left _ (by omega), left _ (by omega)]
    congr 1
    rw [show x.length + (u.length - 1) = x.length - 1 + u.length by omega, Nat.add_mod_right]
  have e3 : (pw v j)[v.length - 1]? = v.getLast? := by
    rw [pw_get hv j _ (by omega), Nat.mod_eq_of_lt (by omega), List.getLast?_eq_getElem?]
  rw [e1, e2, right _ (by omega), ← zget _ (by omega), a1, zget _ (by omega), e3]
/-- two powers of primitive words that begin alike are of one word -/
theorem pow_same {u v A B : W} {i j : Nat} (hu : Prim u) (hv : Prim v) (h : pw u i ++ A = pw v j ++ B) (hi : u.length + v.length ≤ u.length * i) (hj : u.length + v.length ≤ v.length * j) : u = v := by
  have u0 := List.length_pos_iff.mpr hu.1
  have v0 := List.length_pos_iff.mpr hv.1
  have lu : (pw u i).length = u.length * i := pw_len _ _
  have lv : (pw v j).length = v.length * j := pw_len _ _
  have ez : (pw u i).take (u.length + v.length) = (pw v j).take (u.length + v.length) := by
    have : (pw u i ++ A).take (u.length + v.length) = (pw v j ++ B).take (u.length + v.length) := by rw [h]
    rw [List.take_append_of_le_length (by omega), List.take_append_of_le_length (by omega)] at this
    exact this
  have lz : ((pw u i).take (u.length + v.length)).length = u.length + v.length := by rw [List.length_take]; omega
  have p1 : Per u.length ((pw u i).take (u.length + v.length)) := per_take (pw_per hu.1 i)
  have p2 : Per v.length ((pw u i).take (u.length + v.length)) := by rw [ez]; exact per_take (pw_per hv.1 j)
  have pd := per_gcd p1 p2 (by rw [lz]; exact Nat.le_refl _)
  have tu : ((pw u i).take (u.length + v.length)).take u.length = u := by
    rw [List.take_take, Nat.min_eq_left (by omega)]
    refine List.ext_getElem? fun k => ?_
    by_cases hk : k < u.length
    · rw [List.getElem?_take_of_lt hk, pw_get hu.1 i k (by omega), Nat.mod_eq_of_lt hk]
    · rw [List.getElem?_eq_none (by rw [List.length_take]; omega), List.getElem?_eq_none (by omega)]
  have tv : ((pw u i).take (u.length + v.length)).take v.length = v := by
    rw [ez, List.take_take, Nat.min_eq_left (by omega)]
    refine List.ext_getElem? fun k => ?_
    by_cases hk : k < v.length
    · rw [List.getElem?_take_of_lt hk, pw_get hv.1 j k (by omega), Nat.mod_eq_of_lt hk]
    · rw [List.getElem?_eq_none (by rw [List.length_take]; omega), List.getElem?_eq_none (by omega)]
  have d0 : 0 < Nat.gcd u.length v.length := Nat.gcd_pos_of_pos_left _ u0
  have pu : Per (Nat.gcd u.length v.length) u := by
    have := per_take (k := u.length) pd
    rw [tu] at this
    exact this
  have pv : Per (Nat.gcd u.length v.length) v := by
    have := per_take (k := v.length) pd
    rw [tv] at this
    exact this
  have du := hu.2 _ d0 (Nat.gcd_dvd_left _ _) pu
  have dv := hv.2 _ d0 (Nat.gcd_dvd_right _ _) pv
  have el : u.length = v.length := du.symm.trans dv
  exact (tu.symm.trans (congrArg (fun n => ((pw u i).take (u.length + v.length)).take n) el)).trans tv
/-- a point of numbers of at least N -/
def Far (m N : Nat) (pt : List Nat) : Prop := pt.length = m ∧ ∀ x ∈ pt, N ≤ x
theorem dot_far {N : Nat} : ∀ (f pt : List Nat), f.length = pt.length → (∃ x ∈ f, x ≠ 0) → (∀ x ∈ pt, N ≤ x) → N ≤ dot f pt
  | [], _, _, h, _ => by obtain ⟨x, hx, _⟩ := h; cases hx
  | _ :: _, [], hl, _, _ => by simp at hl
  | a :: f, b :: pt, hl, h, hp => by
    rw [dot]
    by_cases z : a = 0
    · have : ∃ x ∈ f, x ≠ 0 := by
        obtain ⟨x, hx, x0⟩ := h
        rcases List.mem_cons.mp hx with y | y
        · exact absurd (y.trans z) x0
        · exact ⟨x, y, x0⟩
      have := dot_far f pt (by simpa using hl) this fun x hx => hp x (List.mem_cons_of_mem _ hx)
      omega
    · have := hp b List.mem_cons_self
      have : b ≤ a * b := Nat.le_mul_of_pos_left _ (by omega)
      omega
theorem val_far {m N : Nat} {f : F} {pt : List Nat} (hl : f.length = m + 1) (ho : isOpen f = true) (hp : Far m N pt) : N ≤ valF f pt := by
  have := dot_far f.tail pt (by rw [List.length_tail, hl, hp.1]; rfl) (isOpen_iff.mp ho) hp.2
  unfold valF
  omega
def tot (ps : List Pn) : Nat := (ps.map fun p => p.1.length).sum
theorem tot_cons (p : Pn) (r : List Pn) : tot (p :: r) = p.1.length + tot r := by simp [tot]
theorem Nm.tail {m : Nat} {p : Pn} {r : List Pn} (h : Nm m (p :: r)) : Nm m r := ⟨fun q hq => h.all q (List.mem_cons_of_mem _ hq), fun i a b ha hb => h.adj (i + 1) a b ha hb⟩
theorem Nm.head {m : Nat} {p : Pn} {r : List Pn} (h : Nm m (p :: r)) : NormP m p := h.all p List.mem_cons_self
theorem Nm.adj0 {m : Nat} {p q : Pn} {r : List Pn} (h : Nm m (p :: q :: r)) : Adj p q := h.adj 0 p q rfl rfl
/-- what does not begin with u does not begin with a great power of u -/
theorem no_begin {m N k : Nat} {u R : W} {pt : List Nat} (hu : Prim u) : ∀ {r : List Pn}, Nm m r → (∀ q, r.head? = some q → isPow q = true → q.1 ≠ u) → Far m N pt → u.length + tot r + 1 ≤ N → N ≤ k → wr pt r = pw u k ++ R → False
  | [], _, _, _, _, hk, e => by
    have u0 := List.length_pos_iff.mpr hu.1
    have := congrArg List.length e
    rw [List.length_append, pw_len, wr] at this
    have : k ≤ u.length * k := Nat.le_mul_of_pos_left _ u0
    simp at *
    omega
  | q :: t, nm, hq, far, hN, hk, e => by
    have u0 := List.length_pos_iff.mpr hu.1
    have uk : k ≤ u.length * k := Nat.le_mul_of_pos_left _ u0
    have nq := nm.head
    have q0 := List.length_pos_iff.mpr nq.ne
    rw [tot_cons] at hN
    rw [wr] at e
    cases ep : isPow q with
    | true =>
      obtain ⟨pr, op⟩ := nq.pow ep
      have v := val_far nq.len op far
      have qv : valF q.2 pt ≤ q.1.length * valF q.2 pt := Nat.le_mul_of_pos_left _ q0
      exact hq q rfl ep (pow_same pr hu e (by omega) (by omega))
    | false =>
      have ef : wrt pt q = q.1 := by
        have := nq.fix ep
        unfold wrt
        rw [this, val_one, pw_one]
      rw [ef] at e
      match t, nm, e, hN with
      | [], nm, e, hN =>
        have := congrArg List.length e
        rw [wr, List.append_nil, List.length_append, pw_len] at this
        omega
      | q2 :: t2, nm, e, hN =>
        have ad := nm.adj0.fix ep
        have n2 := nm.tail.head
        obtain ⟨_, op⟩ := n2.pow ad.1
        have v := val_far n2.len op far
        have q20 := List.length_pos_iff.mpr n2.ne
        have qv : valF q2.2 pt ≤ q2.1.length * valF q2.2 pt := Nat.le_mul_of_pos_left _ q20
        rw [tot_cons] at hN
        rw [wr] at e
        have e' : pw u k ++ R = q.1 ++ (pw q2.1 (valF q2.2 pt) ++ wr pt t2) := e.symm
        exact ad.2 (turn_last hu.1 n2.ne nq.ne e' (by omega) (by omega))
/-- points that tell forms apart, with great numbers -/
structure Rich (m : Nat) (Sp : List Nat → Prop) : Prop where
  far : ∀ N, ∃ pt, Sp pt ∧ Far m N pt
  part : ∀ (N : Nat) (f g : F), f.length = m + 1 → g.length = m + 1 → f.headD 0 = 0 → g.headD 0 = 0 → f ≠ g → ∃ pt, Sp pt ∧ Far m N pt ∧ (valF f pt + N ≤ valF g pt ∨ valF g pt + N ≤ valF f pt)
theorem uni {m : Nat} {Sp : List Nat → Prop} (hS : Rich m Sp) : ∀ {a b : List Pn}, Nm m a → Nm m b → (∀ pt, Sp pt → wr pt a = wr pt b) → a = b
  | [], [], _, _, _ => rfl
  | [], q :: t, _, nb, e => by
    exfalso
    obtain ⟨pt, sp, far⟩ := hS.far 1
    have := congrArg List.length (e pt sp)
    have nq := nb.head
    have q0 := List.length_pos_iff.mpr nq.ne
    have v : 1 ≤ valF q.2 pt := by
      cases ep : isPow q with
      | true => exact val_far nq.len (nq.pow ep).2 far
      | false => rw [nq.fix ep, val_one]; exact Nat.le_refl _
    have lw : (wrt pt q).length = q.1.length * valF q.2 pt := pw_len _ _
    have : 0 < q.1.length * valF q.2 pt := Nat.mul_pos q0 v
    have h := e pt sp
    rw [wr, wr] at h
    have h2 := congrArg List.length h
    rw [List.length_append] at h2
    simp only [List.length_nil] at h2
    omega
  | p :: r, [], na, _, e => by
    exfalso
    obtain ⟨pt, sp, far⟩ := hS.far 1
    have := congrArg List.length (e pt sp)
    have nq := na.head
    have q0 := List.length_pos_iff.mpr nq.ne
    have v : 1 ≤ valF p.2 pt := by
      cases ep : isPow p with
      | true => exact val_far nq.len (nq.pow ep).2 far
      | false => rw [nq.fix ep, val_one]; exact Nat.le_refl _
    have lw : (wrt pt p).length = p.1.length * valF p.2 pt := pw_len _ _
    have : 0 < p.1.length * valF p.2 pt := Nat.mul_pos q0 v
    have h := e pt sp
    rw [wr, wr] at h
    have h2 := congrArg List.length h
    rw [List.length_append] at h2
    simp only [List.length_nil] at h2
    omega
  | p :: r, q :: t, na, nb, e => by
    have np := na.head
    have nq := nb.head
    have p0 := List.length_pos_iff.mpr np.ne
    have q0 := List.length_pos_iff.mpr nq.ne
    have one : ∀ {c : Pn}, NormP m c → isPow c = false → ∀ pt, wrt pt c = c.1 := fun {c} nc ec pt => by
      unfold wrt
      rw [nc.fix ec, val_one, pw_one]
    -- a power against a fixed piece
    have mixed : ∀ {c d : Pn} {l k : List Pn}, Nm m (c :: l) → Nm m (d :: k) → isPow c = true → isPow d = false → (∀ pt, Sp pt → wr pt (c :: l) = wr pt (d :: k)) → False := fun {c d l k} nc nd ec ed he => by
      obtain ⟨pt, sp, far⟩ := hS.far (c.1.length + tot (d :: k) + 1)
      obtain ⟨prc, opc⟩ := nc.head.pow ec
      refine no_begin (R := wr pt l) (k := valF c.2 pt) prc nd (fun z hz hp => ?_) far (Nat.le_refl _) (val_far nc.head.len opc far) (he pt sp).symm
      cases hz
      rw [ed] at hp
      cases hp
    -- two fixed pieces, the one shorter
    have shorter : ∀ {c d : Pn} {l k : List Pn}, Nm m (c :: l) → Nm m (d :: k) → isPow c = false → isPow d = false → c.1.length < d.1.length → (∀ pt, Sp pt → wr pt (c :: l) = wr pt (d :: k)) → False := fun {c d l k} nc nd ec ed hl he => by
      have ex : ∀ pt, Sp pt → d.1 = c.1 ++ d.1.drop c.1.length ∧ wr pt l = d.1.drop c.1.length ++ wr pt k := fun pt sp => by
        have := he pt sp
        rw [wr, wr, one nc.head ec, one nd.head ed] at this
        have h1 : (c.1 ++ wr pt l).take c.1.length = (d.1 ++ wr pt k).take c.1.length := by rw [this]
        rw [List.take_left, List.take_append_of_le_length (by omega)] at h1
        have sp' : d.1 = c.1 ++ d.1.drop c.1.length := by
          conv => lhs; rw [← List.take_append_drop c.1.length d.1, ← h1]
        refine ⟨sp', ?_⟩
        rw [sp', List.append_assoc] at this
        exact List.append_cancel_left this
      have xne : d.1.drop c.1.length ≠ [] := fun z => by
        have := congrArg List.length z
        rw [List.length_drop, List.length_nil] at this
        omega
      match l, nc, ex with
      | [], _, ex =>
        obtain ⟨pt, sp, _⟩ := hS.far 0
        have := (ex pt sp).2
        rw [wr] at this
        exact xne (List.append_eq_nil_iff.mp this.symm).1
      | y :: l', nc, ex =>
        have ad := nc.adj0.fix ec
        have ny := nc.tail.head
        obtain ⟨pry, opy⟩ := ny.pow ad.1
        obtain ⟨pt, sp, far⟩ := hS.far (y.1.length + tot ((d.1.drop c.1.length, one1 m) :: k) + 1)
        have nx : Nm m ((d.1.drop c.1.length, one1 m) :: k) := by
          refine ⟨fun z hz => ?_, fun i a b ha hb => ?_⟩
          · rcases List.mem_cons.mp hz with w | w
            · rw [w]; exact fixP_norm xne
            · exact nd.all z (List.mem_cons_of_mem _ w)
          · cases i with
            | succ i => exact nd.adj (i + 1) a b ha hb
            | zero =>
              cases ha
              have hb' : (d :: k)[0 + 1]? = some b := hb
              have := (nd.adj 0 d b rfl hb').fix ed
              refine ⟨fun _ => ⟨this.1, fun w => this.2 ?_⟩, fun z => by cases z⟩
              have e1 := (ex pt sp).1
              have w' : (d.1.drop c.1.length).getLast? = b.1.getLast? := w
              rw [← w']
              conv => lhs; rw [e1]
              rw [List.getLast?_append]
              cases hz : (d.1.drop c.1.length).getLast? with
              | none => exact absurd (List.getLast?_eq_none_iff.mp hz) xne
              | some c => rfl
        refine no_begin (R := wr pt l') (k := valF y.2 pt) pry nx (fun z hz hp => ?_) far (Nat.le_refl _) (val_far ny.len opy far) ?_
        · cases hz
          cases hp
        · have := (ex pt sp).2
          rw [wr] at this
          rw [wr, one (c := (d.1.drop c.1.length, one1 m)) (fixP_norm xne) rfl]
          exact this.symm
    have same : p = q → p :: r = q :: t := fun e1 => by
      subst e1
      have : r = t := uni hS na.tail nb.tail fun pt sp => by
        have := e pt sp
        rw [wr, wr] at this
        exact List.append_cancel_left this
      rw [this]
    cases ep : isPow p with
    | true =>
      cases eq' : isPow q with
      | false => exact (mixed na nb ep eq' e).elim
      | true =>
        obtain ⟨prp, opp⟩ := np.pow ep
        obtain ⟨prq, opq⟩ := nq.pow eq'
        have ew : p.1 = q.1 := by
          obtain ⟨pt, sp, far⟩ := hS.far (p.1.length + q.1.length)
          have v1 := val_far np.len opp far
          have v2 := val_far nq.len opq far
          have m1 : valF p.2 pt ≤ p.1.length * valF p.2 pt := Nat.le_mul_of_pos_left _ p0
          have m2 : valF q.2 pt ≤ q.1.length * valF q.2 pt := Nat.le_mul_of_pos_left _ q0
          have h := e pt sp
          rw [wr, wr] at h
          exact pow_same prp prq h (by omega) (by omega)
        by_cases ef : p.2 = q.2
        · exact same (Prod.ext ew ef)
        · exfalso
          have h0 : p.2.headD 0 = 0 := of_decide_eq_true ep
          have h1 : q.2.headD 0 = 0 := of_decide_eq_true eq'
          obtain ⟨pt, sp, far, hd⟩ := hS.part (p.1.length + tot r + tot t + 1) p.2 q.2 np.len nq.len h0 h1 ef
          have h := e pt sp
          rw [wr, wr] at h
          unfold wrt at h
          rcases hd with hd | hd
          · have s : pw q.1 (valF q.2 pt) = pw p.1 (valF p.2 pt) ++ pw p.1 (valF q.2 pt - valF p.2 pt) := by rw [← pw_add, ew]; congr 1; omega
            rw [s, List.append_assoc] at h
            refine no_begin (r := r) prp na.tail (fun z hz hp => ?_) far (by omega) (show _ ≤ valF q.2 pt - valF p.2 pt by omega) (List.append_cancel_left h)
            match r, na, hz with
            | z' :: r', na, hz =>
              cases hz
              exact fun y => na.adj0.pow ep hp y.symm
          · have s : pw p.1 (valF p.2 pt) = pw q.1 (valF q.2 pt) ++ pw q.1 (valF p.2 pt - valF q.2 pt) := by rw [← pw_add, ew]; congr 1; omega
            rw [s, List.append_assoc] at h
            refine no_begin (r := t) prq nb.tail (fun z hz hp => ?_) far (by rw [← ew]; omega) (show _ ≤ valF p.2 pt - valF q.2 pt by omega) (List.append_cancel_left h).symm
            match t, nb, hz with
            | z' :: r', nb, hz =>
              cases hz
              exact fun y => nb.adj0.pow eq' hp y.symm
    | false =>
      cases eq' : isPow q with
      | true => exact (mixed nb na eq' ep fun pt sp => (e pt sp).symm).elim
      | false =>
        have h1 := np.fix ep
        have h2 := nq.fix eq'
        by_cases hl : p.1.length < q.1.length
        · exact (shorter na nb ep eq' hl e).elim
        · by_cases hl2 : q.1.length < p.1.length
          · exact (shorter nb na eq' ep hl2 fun pt sp => (e pt sp).symm).elim
          · obtain ⟨pt, sp, _⟩ := hS.far 0
            have h := e pt sp
            rw [wr, wr, one np ep, one nq eq'] at h
            have := (List.append_inj h (by omega)).1
            exact same (Prod.ext this (h1.trans h2.symm))
/-! ### enough points -/
theorem dot_split : ∀ (f pt : List Nat) (j x y : Nat), f[j]? = some x → pt[j]? = some y → x * y ≤ dot f pt
  | a :: f, b :: pt, 0, x, y, hf, hp => by
    cases hf
    cases hp
    rw [dot]
    omega
  | a :: f, b :: pt, j + 1, x, y, hf, hp => by
    have := dot_split f pt j x y hf hp
    rw [dot]
    omega
  | [], _, _, _, _, hf, _ => by simp at hf
  | _ :: _, [], _, _, _, _, hp => by simp at hp
theorem dot_rest {M : Nat} : ∀ (f pt : List Nat) (j x y : Nat), f[j]? = some x → pt[j]? = some y → (∀ i z, i ≠ j → pt[i]? = some z → z ≤ M) → dot f pt ≤ x * y + f.sum * M
  | a :: f, b :: pt, 0, x, y, hf, hp, h => by
    cases hf
    cases hp
    have : dot f pt ≤ f.sum * M := by
      have key : ∀ (f pt : List Nat), (∀ z ∈ pt, z ≤ M) → dot f pt ≤ f.sum * M := fun f => by
        induction f with
        | nil => intro pt _; simp [dot]
        | cons a f ih =>
          intro pt hp
          cases pt with
          | nil => simp [dot]
          | cons b pt =>
            have h1 := ih pt fun z hz => hp z (List.mem_cons_of_mem _ hz)
            have h2 : a * b ≤ a * M := Nat.mul_le_mul_left _ (hp b List.mem_cons_self)
            rw [dot, List.sum_cons, Nat.add_mul]
            omega
      refine key f pt fun z hz => ?_
      obtain ⟨i, hi⟩ := List.getElem?_of_mem hz
      exact h (i + 1) z (by omega) hi
    rw [dot, List.sum_cons, Nat.add_mul]
    omega
  | a :: f, b :: pt, j + 1, x, y, hf, hp, h => by
    have h1 := dot_rest f pt j x y hf hp fun i z hi hz => h (i + 1) z (by omega) hz
    have h2 : a * b ≤ a * M := Nat.mul_le_mul_left _ (h 0 b (by omega) rfl)
    rw [dot, List.sum_cons, Nat.add_mul]
    omega
  | [], _, _, _, _, hf, _, _ => by simp at hf
  | _ :: _, [], _, _, _, _, hp, _ => by simp at hp
theorem head0 {f : F} {m : Nat} (hl : f.length = m + 1) (h : f.headD 0 = 0) : f = 0 :: f.tail := by
  cases f with
  | nil => simp at hl
  | cons a f =>
    have : a = 0 := h
    rw [this]
    rfl
theorem rich_of {m : Nat} {Sp : List Nat → Prop} (h0 : ∀ N, ∃ pt, Sp pt ∧ Far m N pt) (h : ∀ N, ∃ M, ∀ j K, j < m → ∃ pt, Sp pt ∧ Far m N pt ∧ (∀ i z, i ≠ j → pt[i]? = some z → z ≤ M) ∧ ∃ y, pt[j]? = some y ∧ K ≤ y) : Rich m Sp := by
  refine ⟨h0, fun N f g lf lg hf hg ne => ?_⟩
  have ef := head0 lf hf
  have eg := head0 lg hg
  have tne : f.tail ≠ g.tail := fun z => ne (by rw [ef, eg, z])
  have lt1 : f.tail.length = m := by rw [List.length_tail, lf]; rfl
  have lt2 : g.tail.length = m := by rw [List.length_tail, lg]; rfl
  have hv : ∀ (f : F) (pt : List Nat), f.headD 0 = 0 → valF f pt = dot f.tail pt := fun f pt z => by unfold valF; rw [z, Nat.zero_add]
  obtain ⟨j, hj⟩ : ∃ j, f.tail[j]? ≠ g.tail[j]? := Classical.byContradiction fun z => tne (List.ext_getElem? fun i => Classical.byContradiction fun y => z ⟨i, y⟩)
  have jm : j < m := Classical.byContradiction fun z => hj (by rw [List.getElem?_eq_none (by omega), List.getElem?_eq_none (by omega)])
  obtain ⟨x1, e1⟩ : ∃ x, f.tail[j]? = some x := ⟨_, List.getElem?_eq_getElem (by omega)⟩
  obtain ⟨x2, e2⟩ : ∃ x, g.tail[j]? = some x := ⟨_, List.getElem?_eq_getElem (by omega)⟩
  have xne : x1 ≠ x2 := fun z => hj (by rw [e1, e2, z])
  obtain ⟨M, hM⟩ := h N
  obtain ⟨pt, sp, far, small, y, hy, ky⟩ := hM j (f.tail.sum * M + g.tail.sum * M + N) jm
  refine ⟨pt, sp, far, ?_⟩
  rw [hv f pt hf, hv g pt hg]
  have a1 := dot_split f.tail pt j x1 y e1 hy
  have a2 := dot_split g.tail pt j x2 y e2 hy
  have b1 := dot_rest f.tail pt j x1 y e1 hy small
  have b2 := dot_rest g.tail pt j x2 y e2 hy small
  rcases Nat.lt_or_gt_of_ne xne with z | z
  · refine .inl ?_
    have : (x1 + 1) * y ≤ x2 * y := Nat.mul_le_mul_right _ z
    rw [Nat.add_mul, Nat.one_mul] at this
    omega
  · refine .inr ?_
    have : (x2 + 1) * y ≤ x1 * y := Nat.mul_le_mul_right _ z
    rw [Nat.add_mul, Nat.one_mul] at this
    omega
/-- all points -/
def AllPt (m : Nat) (pt : List Nat) : Prop := pt.length = m
theorem rich_all (m : Nat) : Rich m (AllPt m) := by
  refine rich_of (fun N => ⟨List.replicate m N, by simp [AllPt], by simp [Far]⟩) fun N => ⟨N, fun j K hj => ⟨(List.replicate m N).set j (N + K), by simp [AllPt], ⟨by simp, fun x hx => ?_⟩, fun i z hi hz => ?_, N + K, ?_, by omega⟩⟩
  · rcases List.mem_or_eq_of_mem_set hx with w | w
    · rw [List.eq_of_mem_replicate w]; exact Nat.le_refl _
    · rw [w]; omega
  · rw [List.getElem?_set_ne (Ne.symm hi)] at hz
    have := List.mem_of_getElem? hz
    rw [List.eq_of_mem_replicate this]
    exact Nat.le_refl _
  · rw [List.getElem?_set_self (by simpa using hj)]
/-- lists that write the same words have one normal list -/
theorem norm_same {m : Nat} {a b : List Pn} (ha : LenF m a) (hb : LenF m b) (h : ∀ pt, pt.length = m → wr pt a = wr pt b) : normL a = normL b :=
  uni (rich_all m) (nm_normL ha) (nm_normL hb) fun pt sp => by rw [wr_normL ha, wr_normL hb]; exact h pt sp
end NM

set_option Elab.async false
set_option linter.all false
set_option maxRecDepth 100000
set_option maxHeartbeats 4000000
namespace K13
open PySem PySem.Spec PyProof.Rows L2 CK
def topS (i : Nat) : Stmt := PySem.Challenge.pw_countscribe_k13_whole_one_normal_list.main.body.getD i (.Pass ⟨0, 0, 0, 0⟩)
theorem sc_is_whole : FnScope ["value"] ["value"] (C8.fnScope (topS 8)) := C8.fnScope_by (by decide +kernel)
theorem sc_is_count : FnScope ["value"] ["value"] (C8.fnScope (topS 9)) := C8.fnScope_by (by decide +kernel)
theorem sc_is_within : FnScope ["value", "low", "high"] ["value", "low", "high"] (C8.fnScope (topS 10)) := C8.fnScope_by (by decide +kernel)
theorem sc_is_lettered : FnScope ["value", "most"] ["value", "most"] (C8.fnScope (topS 11)) := C8.fnScope_by (by decide +kernel)
theorem sc_need_within : FnScope ["value", "low", "high"] ["value", "low", "high"] (C8.fnScope (topS 12)) := C8.fnScope_by (by decide +kernel)
theorem sc_need_many : FnScope ["value"] ["value"] (C8.fnScope (topS 13)) := C8.fnScope_by (by decide +kernel)
theorem sc_is_form_for : FnScope ["many", "value", "number"] ["many", "value"] (C8.fnScope (topS 15)) := C8.fnScope_by (by decide +kernel)
theorem sc_form_sum : FnScope ["one", "other", "left", "right"] ["one", "other"] (C8.fnScope (topS 16)) := C8.fnScope_by (by decide +kernel)
theorem sc_form_times : FnScope ["number", "form", "own"] ["number", "form"] (C8.fnScope (topS 17)) := C8.fnScope_by (by decide +kernel)
theorem sc_turned_word : FnScope ["word", "by", "at"] ["word", "by"] (C8.fnScope (topS 19)) := C8.fnScope_by (by decide +kernel)
theorem sc_stretch : FnScope ["word", "start", "size", "at"] ["word", "start", "size"] (C8.fnScope (topS 20)) := C8.fnScope_by (by decide +kernel)
theorem sc_alike_ahead : FnScope ["one", "other", "low", "high", "middle"] ["one", "other"] (C8.fnScope (topS 21)) := C8.fnScope_by (by decide +kernel)
theorem sc_alike_behind : FnScope ["one", "other"] ["one", "other"] (C8.fnScope (topS 22)) := C8.fnScope_by (by decide +kernel)
theorem sc_border_sizes : FnScope ["word", "sizes", "size", "at"] ["word"] (C8.fnScope (topS 23)) := C8.fnScope_by (by decide +kernel)
theorem sc_root_size : FnScope ["word", "step"] ["word"] (C8.fnScope (topS 24)) := C8.fnScope_by (by decide +kernel)
theorem sc_is_piece : FnScope ["many", "value"] ["many", "value"] (C8.fnScope (topS 29)) := C8.fnScope_by (by decide +kernel)
theorem sc_is_piece_list : FnScope ["many", "value", "item"] ["many", "value"] (C8.fnScope (topS 30)) := C8.fnScope_by (by decide +kernel)
theorem sc_is_open_form : FnScope ["form"] ["form"] (C8.fnScope (topS 31)) := C8.fnScope_by (by decide +kernel)
theorem sc_is_power : FnScope ["piece"] ["piece"] (C8.fnScope (topS 32)) := C8.fnScope_by (by decide +kernel)
theorem sc_fixed_piece : FnScope ["word", "many"] ["word", "many"] (C8.fnScope (topS 33)) := C8.fnScope_by (by decide +kernel)
theorem sc_measure : FnScope ["pieces", "word", "form"] ["pieces"] (C8.fnScope (topS 34)) := C8.fnScope_by (by decide +kernel)
theorem sc_normal_pieces : FnScope ["pieces", "ready", "word", "form", "size"] ["pieces"] (C8.fnScope (topS 35)) := C8.fnScope_by (by decide +kernel)
theorem sc_put_fixed : FnScope ["ready", "word", "many"] ["ready", "word", "many"] (C8.fnScope (topS 36)) := C8.fnScope_by (by decide +kernel)
theorem sc_put_power : FnScope ["ready", "word", "form", "many", "behind", "ahead", "moved"] ["ready", "word", "form"] (C8.fnScope (topS 37)) := C8.fnScope_by (by decide +kernel)
theorem sc_need_pieces : FnScope ["many", "pieces", "item"] ["many", "pieces"] (C8.fnScope (topS 39)) := C8.fnScope_by (by decide +kernel)
theorem sc_need_measure : FnScope ["total"] ["total"] (C8.fnScope (topS 40)) := C8.fnScope_by (by decide +kernel)
theorem sc_normal : FnScope ["many", "pieces"] ["many", "pieces"] (C8.fnScope (topS 41)) := C8.fnScope_by (by decide +kernel)
theorem sc_is_normal : FnScope ["many", "value"] ["many", "value"] (C8.fnScope (topS 42)) := C8.fnScope_by (by decide +kernel)
theorem sc_OpenText___init__ : FnScope ["self", "many", "pieces"] ["self", "many", "pieces"] (C8.fnScope (inClass (topS 44) 0)) := C8.fnScope_by (by decide +kernel)
theorem sc_OpenText___eq__ : FnScope ["self", "other"] ["self", "other"] (C8.fnScope (inClass (topS 44) 1)) := C8.fnScope_by (by decide +kernel)
theorem sc_OpenText_many : FnScope ["self"] ["self"] (C8.fnScope (inClass (topS 44) 2)) := C8.fnScope_by (by decide +kernel)
theorem sc_OpenText_pieces : FnScope ["self"] ["self"] (C8.fnScope (inClass (topS 44) 3)) := C8.fnScope_by (by decide +kernel)
theorem sc_law_hash : FnScope ["_law_seed", "_law_index", "_law_mixed"] ["_law_seed", "_law_index"] (C8.fnScope (topS 46)) := C8.fnScope_by (by decide +kernel)
theorem sc_law_random : FnScope ["_law_generator_here", "_law_bound", "_law_drawn", "_law_turn"] ["_law_generator_here", "_law_bound"] (C8.fnScope (topS 47)) := C8.fnScope_by (by decide +kernel)
theorem sc_law_cell : FnScope ["_law_script", "_law_index"] ["_law_script", "_law_index"] (C8.fnScope (topS 48)) := C8.fnScope_by (by decide +kernel)
theorem sc_law_generator : FnScope ["_law_script", "_law_index", "_law_seed"] ["_law_script", "_law_index"] (C8.fnScope (topS 49)) := C8.fnScope_by (by decide +kernel)
theorem sc_law_letters : FnScope ["_law_generator_here", "_law_left", "_law_turn"] ["_law_generator_here"] (C8.fnScope (topS 50)) := C8.fnScope_by (by decide +kernel)
theorem sc_law_word : FnScope ["_law_generator_here", "_law_signs", "_law_least", "_law_most", "_law_many", "_law_turn"] ["_law_generator_here", "_law_signs", "_law_least", "_law_most"] (C8.fnScope (topS 51)) := C8.fnScope_by (by decide +kernel)
theorem sc_law_form : FnScope ["_law_generator_here", "_law_many", "_law_most", "_law_turn"] ["_law_generator_here", "_law_many", "_law_most"] (C8.fnScope (topS 52)) := C8.fnScope_by (by decide +kernel)
theorem sc_law_plain : FnScope ["_law_many", "_law_number"] ["_law_many", "_law_number"] (C8.fnScope (topS 53)) := C8.fnScope_by (by decide +kernel)
theorem sc_law_piece : FnScope ["_law_generator_here", "_law_many", "_law_signs", "_law_base", "_law_most", "_law_way", "_law_turn", "_law_turned"] ["_law_generator_here", "_law_many", "_law_signs", "_law_base", "_law_most"] (C8.fnScope (topS 54)) := C8.fnScope_by (by decide +kernel)
theorem sc_law_raw : FnScope ["_law_generator_here", "_law_many", "_law_signs", "_law_count", "_law_most", "_law_found", "_law_base", "_law_turn"] ["_law_generator_here", "_law_many", "_law_signs", "_law_count", "_law_most"] (C8.fnScope (topS 55)) := C8.fnScope_by (by decide +kernel)
theorem sc_law_parted : FnScope ["_law_generator_here", "_law_many", "_law_pieces", "_law_at", "_law_word_here", "_law_form_here", "_law_first", "_law_number", "_law_rest", "_law_taken"] ["_law_generator_here", "_law_many", "_law_pieces", "_law_at"] (C8.fnScope (topS 56)) := C8.fnScope_by (by decide +kernel)
theorem sc_law_doubled : FnScope ["_law_many", "_law_pieces", "_law_at", "_law_word_here", "_law_form_here", "_law_number"] ["_law_many", "_law_pieces", "_law_at"] (C8.fnScope (topS 57)) := C8.fnScope_by (by decide +kernel)
theorem sc_law_moved : FnScope ["_law_many", "_law_pieces", "_law_at", "_law_word_here", "_law_form_here", "_law_behind", "_law_turned"] ["_law_many", "_law_pieces", "_law_at"] (C8.fnScope (topS 58)) := C8.fnScope_by (by decide +kernel)
theorem sc_law_taken_out : FnScope ["_law_many", "_law_pieces", "_law_at", "_law_word_here", "_law_form_here", "_law_split"] ["_law_many", "_law_pieces", "_law_at"] (C8.fnScope (topS 59)) := C8.fnScope_by (by decide +kernel)
theorem sc_law_joined : FnScope ["_law_many", "_law_pieces", "_law_at", "_law_word_here", "_law_form_here", "_law_later", "_law_other", "_law_low", "_law_high"] ["_law_many", "_law_pieces", "_law_at"] (C8.fnScope (topS 60)) := C8.fnScope_by (by decide +kernel)
theorem sc_law_stepped : FnScope ["_law_generator_here", "_law_many", "_law_letters_here", "_law_pieces", "_law_way", "_law_at"] ["_law_generator_here", "_law_many", "_law_letters_here", "_law_pieces"] (C8.fnScope (topS 61)) := C8.fnScope_by (by decide +kernel)
theorem sc_law_yes : FnScope ["_law_told", "_law_due"] ["_law_told", "_law_due"] (C8.fnScope (topS 62)) := C8.fnScope_by (by decide +kernel)
theorem sc_law_right : FnScope ["_law_generator_here", "_law_many", "_law_letters_here", "_law_first", "_law_told", "_law_pieces", "_law_given", "_law_kept", "_law_text", "_law_other", "_law_turn", "_law_changed"] ["_law_generator_here"] (C8.fnScope (topS 63)) := C8.fnScope_by (by decide +kernel)
theorem sc_law : FnScope ["_law_script", "_law_index"] ["_law_script"] (C8.fnScope (topS 64)) := C8.fnScope_by (by decide +kernel)
structure Txt (K : PySem.W.Frag) (mg : Str → Option Value) (C : Addr) : Prop where
  k_OpenText : ClF K mg "OpenText" C
  f_many : NoAttr K C "_many"
  f_pieces : NoAttr K C "_pieces"
  d_is_whole : DefF K mg "is_whole" (topS 8) ["value"]
  d_is_count : DefF K mg "is_count" (topS 9) ["value"]
  d_is_within : DefF K mg "is_within" (topS 10) ["value", "low", "high"]
  d_is_lettered : DefF K mg "is_lettered" (topS 11) ["value", "most"]
  d_need_within : DefF K mg "need_within" (topS 12) ["value", "low", "high"]
  d_need_many : DefF K mg "need_many" (topS 13) ["value"]
  d_is_form_for : DefF K mg "is_form_for" (topS 15) ["many", "value"]
  d_form_sum : DefF K mg "form_sum" (topS 16) ["one", "other"]
  d_form_times : DefF K mg "form_times" (topS 17) ["number", "form"]
  d_turned_word : DefF K mg "turned_word" (topS 19) ["word", "by"]
  d_stretch : DefF K mg "stretch" (topS 20) ["word", "start", "size"]
  d_alike_ahead : DefF K mg "alike_ahead" (topS 21) ["one", "other"]
  d_alike_behind : DefF K mg "alike_behind" (topS 22) ["one", "other"]
  d_border_sizes : DefF K mg "border_sizes" (topS 23) ["word"]
  d_root_size : DefF K mg "root_size" (topS 24) ["word"]
  d_is_piece : DefF K mg "is_piece" (topS 29) ["many", "value"]
  d_is_piece_list : DefF K mg "is_piece_list" (topS 30) ["many", "value"]
  d_is_open_form : DefF K mg "is_open_form" (topS 31) ["form"]
  d_is_power : DefF K mg "is_power" (topS 32) ["piece"]
  d_fixed_piece : DefF K mg "fixed_piece" (topS 33) ["word", "many"]
  d_measure : DefF K mg "measure" (topS 34) ["pieces"]
  d_normal_pieces : DefF K mg "normal_pieces" (topS 35) ["pieces"]
  d_put_fixed : DefF K mg "put_fixed" (topS 36) ["ready", "word", "many"]
  d_put_power : DefF K mg "put_power" (topS 37) ["ready", "word", "form"]
  d_need_pieces : DefF K mg "need_pieces" (topS 39) ["many", "pieces"]
  d_need_measure : DefF K mg "need_measure" (topS 40) ["total"]
  d_normal : DefF K mg "normal" (topS 41) ["many", "pieces"]
  d_is_normal : DefF K mg "is_normal" (topS 42) ["many", "value"]
  d_OpenText___init__ : MetF K C "__init__" "OpenText.__init__" (inClass (topS 44) 0) ["self", "many", "pieces"]
  d_OpenText___eq__ : MetF K C "__eq__" "OpenText.__eq__" (inClass (topS 44) 1) ["self", "other"]
  d_OpenText_many : MetF K C "many" "OpenText.many" (inClass (topS 44) 2) ["self"]
  d_OpenText_pieces : MetF K C "pieces" "OpenText.pieces" (inClass (topS 44) 3) ["self"]
  d_law_hash : DefF K mg "_law_hash" (topS 46) ["_law_seed", "_law_index"]
  d_law_random : DefF K mg "_law_random" (topS 47) ["_law_generator_here", "_law_bound"]
  d_law_cell : DefF K mg "_law_cell" (topS 48) ["_law_script", "_law_index"]
  d_law_generator : DefF K mg "_law_generator" (topS 49) ["_law_script", "_law_index"]
  d_law_letters : DefF K mg "_law_letters" (topS 50) ["_law_generator_here"]
  d_law_word : DefF K mg "_law_word" (topS 51) ["_law_generator_here", "_law_signs", "_law_least", "_law_most"]
  d_law_form : DefF K mg "_law_form" (topS 52) ["_law_generator_here", "_law_many", "_law_most"]
  d_law_plain : DefF K mg "_law_plain" (topS 53) ["_law_many", "_law_number"]
  d_law_piece : DefF K mg "_law_piece" (topS 54) ["_law_generator_here", "_law_many", "_law_signs", "_law_base", "_law_most"]
  d_law_raw : DefF K mg "_law_raw" (topS 55) ["_law_generator_here", "_law_many", "_law_signs", "_law_count", "_law_most"]
  d_law_parted : DefF K mg "_law_parted" (topS 56) ["_law_generator_here", "_law_many", "_law_pieces", "_law_at"]
  d_law_doubled : DefF K mg "_law_doubled" (topS 57) ["_law_many", "_law_pieces", "_law_at"]
  d_law_moved : DefF K mg "_law_moved" (topS 58) ["_law_many", "_law_pieces", "_law_at"]
  d_law_taken_out : DefF K mg "_law_taken_out" (topS 59) ["_law_many", "_law_pieces", "_law_at"]
  d_law_joined : DefF K mg "_law_joined" (topS 60) ["_law_many", "_law_pieces", "_law_at"]
  d_law_stepped : DefF K mg "_law_stepped" (topS 61) ["_law_generator_here", "_law_many", "_law_letters_here", "_law_pieces"]
  d_law_yes : DefF K mg "_law_yes" (topS 62) ["_law_told", "_law_due"]
  d_law_right : DefF K mg "_law_right" (topS 63) ["_law_generator_here"]
  d_law : DefF K mg "law" (topS 64) ["_law_script"]
  m_all : mg "all" = none
  m_any : mg "any" = none
  m_bool : mg "bool" = none
  m_int : mg "int" = none
  m_isinstance : mg "isinstance" = none
  m_len : mg "len" = none
  m_list : mg "list" = none
  m_max : mg "max" = none
  m_min : mg "min" = none
  m_range : mg "range" = none
  m_str : mg "str" = none
  m_sum : mg "sum" = none
  m_tuple : mg "tuple" = none
  m_zip : mg "zip" = none
  k_MOST_MEASURE : ∃ u, mg "MOST_MEASURE" = some u ∧ RelV (.int 2000) u
  k_MOST_PIECES : ∃ u, mg "MOST_PIECES" = some u ∧ RelV (.int 5000) u
  k_MOST_PIECE_LETTERS : ∃ u, mg "MOST_PIECE_LETTERS" = some u ∧ RelV (.int 2000) u
  k_MOST_UNKNOWNS : ∃ u, mg "MOST_UNKNOWNS" = some u ∧ RelV (.int 3) u
end K13

set_option Elab.async false
set_option linter.all false
set_option maxRecDepth 100000
set_option maxHeartbeats 2000000
namespace K13
open PySem PySem.Spec PyProof.Rows L2 CK SX NM
/-! ### letters -/
def Low (w : List Nat) : Prop := ∀ c ∈ w, 97 ≤ c ∧ c ≤ 122
theorem low_cases {c : Nat} (h : 97 ≤ c ∧ c ≤ 122) : Unicode.isAlpha c = true ∧ Unicode.isLower c = true ∧ (Unicode.isUpper c || Unicode.isTitle c) = false := by
  have : c ∈ List.range' 97 26 := by
    rw [List.mem_range']
    exact ⟨c - 97, by omega, by omega⟩
  have all : (List.range' 97 26).all (fun c => Unicode.isAlpha c && Unicode.isLower c && !(Unicode.isUpper c || Unicode.isTitle c)) = true := by decide +kernel
  have := List.all_eq_true.mp all c this
  simp only [Bool.and_eq_true, Bool.not_eq_true'] at this
  exact ⟨this.1.1, this.1.2, this.2⟩
theorem low_ascii {w : List Nat} (h : Low w) : Txt.isascii (S w) = true := by
  unfold Txt.isascii
  rw [← Array.all_toList, List.all_eq_true]
  exact fun c hc => decide_eq_true (by have := h c hc; omega)
theorem low_alpha {w : List Nat} (h : Low w) (ne : w ≠ []) : Txt.isalpha (S w) = true := by
  unfold Txt.isalpha
  rw [← Array.all_toList, S_len, decide_eq_true (List.length_pos_iff.mpr ne), Bool.true_and, List.all_eq_true]
  exact fun c hc => (low_cases (h c hc)).1
theorem low_lower {w : List Nat} (h : Low w) (ne : w ≠ []) : Txt.islower (S w) = true := by
  unfold Txt.islower
  rw [← Array.any_toList, ← Array.any_toList, Bool.and_eq_true]
  constructor
  · obtain ⟨c, hc⟩ := List.exists_mem_of_ne_nil w ne
    exact List.any_eq_true.mpr ⟨c, hc, (low_cases (h c hc)).2.1⟩
  · rw [Bool.not_eq_true', List.any_eq_false]
    exact fun c hc => by rw [(low_cases (h c hc)).2.2]; exact Bool.false_ne_true
section
variable {P : Program} {w : World} {K : PySem.W.Frag} {mg : Str → Option Value} {base : Heap} {C : Addr}
/-! ### checks -/
def sp_is_whole : Sp := fun vs H Q _ => ∃ v, vs = [v] ∧ Kn H v ∧ Q (.bl (isW v)) H
theorem c_is_whole (T : Txt K mg C) : C8.Cal P w K mg base 1 "is_whole" sp_is_whole [] := by
  refine calF T.d_is_whole sc_is_whole (fun vs H Q E h => ?_) (fun f cdv A outer s H vs Q E hr h => ?_)
  · obtain ⟨v, rfl, _⟩ := h; rfl
  · obtain ⟨v, rfl, k, q⟩ := h
    refine ⟨_, (pss_one (ps_ret (pe_and (pe_callB call_isK (by rfl) T.m_isinstance (by decide +kernel) (pa_cons (pv 0) (pa_cons (pe_bltn (v := .ty "int") (by rfl) T.m_int (by decide +kernel) rfl) pa_nil))) (pe_one (pe_not (pe_callB call_isK (by rfl) T.m_isinstance (by decide +kernel) (pa_cons (pv 0) (pa_cons (pe_bltn (v := .ty "bool") (by rfl) T.m_bool (by decide +kernel) rfl) pa_nil)))))))), ?_⟩
    refine ⟨v, rfl, v, "int", _, rfl, k, kit_int k, _, rfl, ite2 (fun e => ?_) (fun e => ?_)⟩
    · refine ⟨v, rfl, v, "bool", _, rfl, k, kit_bool k, _, rfl, ?_⟩
      rw [show (!isBo v) = isW v by cases v <;> first | rfl | (exact absurd e Bool.false_ne_true)]
      exact q
    · rw [show false = isW v by cases v <;> first | rfl | (exact absurd rfl e)]
      exact q
def sp_is_count : Sp := fun vs H Q _ => ∃ v, vs = [v] ∧ Kn H v ∧ Q (.bl (isC v)) H
theorem c_is_count (T : Txt K mg C) : C8.Cal P w K mg base 2 "is_count" sp_is_count [] := by
  refine calF T.d_is_count sc_is_count (fun vs H Q E h => ?_) (fun f cdv A outer s H vs Q E hr h => ?_)
  · obtain ⟨v, rfl, _⟩ := h; rfl
  · obtain ⟨v, rfl, k, q⟩ := h
    refine ⟨_, (pss_one (ps_ret (pe_and (C8.pe_c (c_is_whole T) hr (by decide) (by rfl) (pa_cons (pv 0) pa_nil)) (pe_one (pe_cmpR op_ge (pv 0) pe_int (nomark _)))))), ?_⟩
    refine ⟨v, rfl, v, rfl, k, _, rfl, ite2 (fun e => ?_) (fun e => ?_)⟩
    · cases v <;> first | (exact absurd e Bool.false_ne_true) | exact ⟨_, rfl, _, 0, rfl, rfl, q⟩
    · rw [show false = isC v by cases v <;> first | rfl | (exact absurd rfl e)]
      exact q
def sp_is_within : Sp := fun vs H Q _ => ∃ i lo hi : Int, vs = [.int i, .int lo, .int hi] ∧ Q (.bl (decide (lo ≤ i) && decide (i ≤ hi))) H
theorem c_is_within (T : Txt K mg C) : C8.Cal P w K mg base 2 "is_within" sp_is_within [] := by
  refine calF T.d_is_within sc_is_within (fun vs H Q E h => ?_) (fun f cdv A outer s H vs Q E hr h => ?_)
  · obtain ⟨i, lo, hi, rfl, _⟩ := h; rfl
  · obtain ⟨i, lo, hi, rfl, q⟩ := h
    refine ⟨_, (pss_one (ps_ret (pe_and (C8.pe_c (c_is_whole T) hr (by decide) (by rfl) (pa_cons (pv 0) pa_nil)) (pe_one (pe_chain op_le op_le (pv 1) (pv 0) (pv 2)))))), ?_⟩
    refine ⟨.int i, rfl, .int i, rfl, .int i, _, rfl, iteT ?_⟩
    refine ⟨_, rfl, _, rfl, lo, i, rfl, rfl, _, rfl, ite2 (fun e => ?_) (fun e => ?_)⟩
    · refine ⟨_, rfl, i, hi, rfl, rfl, ?_⟩
      rw [e, Bool.true_and] at q
      exact q
    · rw [Bool.not_eq_true] at e
      rw [e, Bool.false_and] at q
      exact q
def sp_need_within : Sp := fun vs H Q _ => ∃ i lo hi : Int, vs = [.int i, .int lo, .int hi] ∧ lo ≤ i ∧ i ≤ hi ∧ Q .non H
theorem c_need_within (T : Txt K mg C) : C8.Cal P w K mg base 3 "need_within" sp_need_within [] := by
  refine calF T.d_need_within sc_need_within (fun vs H Q E h => ?_) (fun f cdv A outer s H vs Q E hr h => ?_)
  · obtain ⟨i, lo, hi, rfl, _⟩ := h; rfl
  · obtain ⟨i, lo, hi, rfl, h1, h2, q⟩ := h
    refine ⟨_, (pss_one (ps_if (pt_not (pt_val (C8.pe_c (c_is_within T) hr (by decide) (by rfl) (pa_cons (pv 0) (pa_cons (pv 1) (pa_cons (pv 2) pa_nil))))))
    (pss_one ps_never)
    pss_nil)), ?_⟩
    refine ⟨_, rfl, _, rfl, _, rfl, i, lo, hi, rfl, _, rfl, ?_⟩
    rw [decide_eq_true h1, decide_eq_true h2]
    exact iteF q
theorem len_line {w : List Nat} (h : w.length ≤ 1000000) : (S w).length ≤ sizeLine := by rw [S_len, sizeLine_eq]; omega
def sp_is_lettered : Sp := fun vs H Q _ => ∃ (z : List Nat) (m : Nat), vs = [.str (S z), .int m] ∧ z.length ≤ 1000000 ∧ Low z ∧ Q (.bl (decide (z.length ≤ m))) H
theorem S_nil {z : List Nat} (h : (S z : Str) = "") : z = [] := by
  have := congrArg Str.length h
  rw [S_len] at this
  exact List.length_eq_zero_iff.mp this
theorem c_is_lettered (T : Txt K mg C) : C8.Cal P w K mg base 1 "is_lettered" sp_is_lettered [] := by
  refine calF T.d_is_lettered sc_is_lettered (fun vs H Q E h => ?_) (fun f cdv A outer s H vs Q E hr h => ?_)
  · obtain ⟨_, _, rfl, _⟩ := h; rfl
  · obtain ⟨z, m, rfl, hl, lw, q⟩ := h
    refine ⟨_, (pss_cons (ps_if (PW.pt (pw_or (pt_not (pt_val (pe_callB call_isK (by rfl) T.m_isinstance (by decide +kernel) (pa_cons (pv 0) (pa_cons (pe_bltn (v := .ty "str") (by rfl) T.m_str (by decide +kernel) rfl) pa_nil))))) (pw_or1 (pt_cmpR op_gt (pe_callB call_len_str (by rfl) T.m_len (by decide +kernel) (pa_cons (pv 0) pa_nil)) (pv 1) (nomark _)))))
    (pss_one (ps_ret pe_bl))
    pss_nil)
    (pss_one (ps_ret (pe_or (pe_cmpR op_eq (pv 0) pe_str (nomark _)) (pe_one (pe_and (pe_m0 PySem.F.slot_str_isascii PySem.F.type_str_isascii mt_isascii (pv 0)) (pe_and (pe_m0 PySem.F.slot_str_isalpha PySem.F.type_str_isalpha mt_isalpha (pv 0)) (pe_one (pe_m0 PySem.F.slot_str_islower PySem.F.type_str_islower mt_islower (pv 0)))))))))), ?_⟩
    refine ⟨_, rfl, .str (S z), "str", true, rfl, .str _, by show kitB "str" "str" = some true; decide +kernel, _, rfl, iteF ?_⟩
    refine ⟨_, rfl, S z, rfl, len_line hl, _, rfl, _, m, rfl, rfl, _, rfl, ?_⟩
    rw [S_len]
    by_cases hm : ¬ z.length ≤ m
    · rw [decide_eq_false hm] at q
      rw [decide_eq_true (show (z.length : Int) > m by omega)]
      exact iteT q
    rw [decide_eq_true (show z.length ≤ m by omega)] at q
    rw [decide_eq_false (show ¬ (z.length : Int) > m by omega)]
    refine iteF ⟨_, rfl, rfl, _, rfl, ite2 (fun e => q) fun e => ?_⟩
    have ne : z ≠ [] := fun y => e (by rw [y]; decide +kernel)
    refine ⟨_, rfl, ⟨_, rfl⟩, _, rfl, rfl, trivial, _, rfl, ?_⟩
    rw [low_ascii lw]
    refine iteT ⟨_, rfl, ⟨_, rfl⟩, _, rfl, rfl, trivial, _, rfl, ?_⟩
    rw [low_alpha lw ne]
    refine iteT ⟨_, rfl, ⟨_, rfl⟩, _, rfl, rfl, trivial, ?_⟩
    rw [low_lower lw ne]
    exact q
def sp_need_many : Sp := fun vs H Q _ => ∃ i : Int, vs = [.int i] ∧ 0 ≤ i ∧ i ≤ 3 ∧ Q .non H
theorem c_need_many (T : Txt K mg C) : C8.Cal P w K mg base 4 "need_many" sp_need_many [] := by
  refine calF T.d_need_many sc_need_many (fun vs H Q E h => ?_) (fun f cdv A outer s H vs Q E hr h => ?_)
  · obtain ⟨v, rfl, _⟩ := h; rfl
  · obtain ⟨i, rfl, h1, h2, q⟩ := h
    refine ⟨_, (pss_one (ps_expr (C8.pe_c (c_need_within T) hr (by decide) (by rfl) (pa_cons (pv 0) (pa_cons pe_int (pa_cons (C8.pe_gc (by rfl) T.k_MOST_UNKNOWNS) pa_nil)))))), ?_⟩
    exact ⟨_, rfl, i, 0, 3, rfl, h1, h2, q⟩
/-- what is_form_for says of a value -/
def formB (H : Hp) (m : Int) : V → Bool
  | .ref a => match H a with
    | some (.tup xs) => decide ((xs.length : Int) = m + 1) && xs.all isC
    | _ => false
  | _ => false
theorem formB_tup {H : Hp} {m : Int} {a : Addr} {xs : List V} (h : H a = some (.tup xs)) : formB H m (.ref a) = (decide ((xs.length : Int) = m + 1) && xs.all isC) := by simp only [formB, h]
def sp_is_form_for : Sp := fun vs H Q _ => ∃ (m : Int) (v : V), vs = [.int m, v] ∧ Kn H v ∧ (∀ a xs, v = .ref a → H a = some (.tup xs) → xs.length < sizeLine ∧ ∀ x ∈ xs, Kn H x) ∧ ∀ H', Same H H' → Q (.bl (formB H m v)) H'
theorem c_is_form_for (T : Txt K mg C) : C8.Cal P w K mg base 3 "is_form_for" sp_is_form_for [] := by
  refine calF T.d_is_form_for sc_is_form_for (fun vs H Q E h => ?_) (fun f cdv A outer s H vs Q E hr h => ?_)
  · obtain ⟨_, _, rfl, _⟩ := h; rfl
  · obtain ⟨m, v, rfl, kn, ht, q⟩ := h
    refine ⟨_, (pss_one (ps_ret (pe_and (pe_callB call_isK (by rfl) T.m_isinstance (by decide +kernel) (pa_cons (pv 1) (pa_cons (pe_bltn (v := .ty "tuple") (by rfl) T.m_tuple (by decide +kernel) rfl) pa_nil))) (pe_and (pe_cmpR op_eq (pe_callB call_len_seq (by rfl) T.m_len (by decide +kernel) (pa_cons (pv 1) pa_nil)) (pe_op op_add (pv 0) pe_int) (nomark _)) (pe_one (pe_callB (cr_all rfl) (by rfl) T.m_all (by decide +kernel) (pa_cons (pe_lc (own := [("number", 2)]) (by rfl) sc_is_form_for.nd (pi_tup (pv 1)) (blkOk_by (N := ["many", "value", "number"]) (sc := C8.fnScope (topS 15)) (own := [("number", 2)]) (by decide +kernel)) (fun _ _ _ _ _ => (pg_name (i := 2) sc_is_form_for.nd rfl (Or.inl rfl))) (fun _ _ _ _ _ => pts_nil) (fun _ _ _ _ _ => (C8.pe_c (c_is_count T) hr (by decide) (by rfl) (pa_cons (pv 2) pa_nil)))) pa_nil))))))), ?_⟩
    refine ⟨_, rfl, v, "tuple", _, rfl, kn, kit_tuple kn, _, rfl, ite2 (fun e => ?_) (fun e => ?_)⟩
    · cases kn <;> first | (exact absurd e Bool.false_ne_true) | skip
      · rename_i a xs ha
        simp only [isTu, ha] at e
        exact absurd e (by decide)
      · rename_i a xs ha
        obtain ⟨hl, hk⟩ := ht a xs rfl ha
        rw [formB_tup ha] at q
        refine ⟨_, rfl, a, xs, rfl, .inr (.inl (.inl ha)), _, rfl, _, _, rfl, rfl, rfl, _, rfl, ite2 (fun e => ?_) (fun e => ?_)⟩
        · have e' : (xs.length : Int) = m + 1 := V.int.inj (of_decide_eq_true e)
          rw [decide_eq_true e', Bool.true_and] at q
          refine ⟨_, rfl, a, rfl, ⟨xs, .inl (.inl ha)⟩, ?_⟩
          refine fun D hD => lcT_map (fun x => .bl (isC x)) ha hl (fun i x H' R hx s q' => ?_) hD fun H' s hL => ?_
          · exact ⟨rfl, x, rfl, x, rfl, (hk x (List.mem_of_getElem? hx)).same s, q' _ (Same.refl _)⟩
          refine ⟨D, xs.map isC, rfl, .inl (.inl (by rw [hL, List.map_map]; rfl)), ?_⟩
          rw [List.all_map]
          exact q H' s
        · have e' : ¬ (xs.length : Int) = m + 1 := fun z => e (by rw [z]; exact decide_eq_true rfl)
          rw [decide_eq_false e', Bool.false_and] at q
          exact q H (Same.refl _)
    · rw [show formB H m v = false by
        cases kn <;> first | rfl | skip
        · rename_i a xs ha
          simp only [formB, ha]
        · rename_i a xs ha
          exact absurd (isTu_tup ha) e] at q
      exact q H (Same.refl _)

theorem kn_nats {H : Hp} {ns : List Nat} : ∀ x ∈ ns.map (fun n : Nat => V.int (n : Nat)), Kn H x := fun x hx => by
  obtain ⟨i, _, rfl⟩ := List.mem_map.mp hx
  exact .int _
/-- a form in the heap -/
def FT (H : Hp) (a : Addr) (f : F) : Prop := H a = some (.tup (f.map fun n : Nat => V.int (n : Nat)))
theorem FT.same {H H' : Hp} {a : Addr} {f : F} (h : FT H a f) (s : Same H H') : FT H' a f := s _ _ h
theorem formB_FT {H : Hp} {m : Nat} {a : Addr} {f : F} (h : FT H a f) (hl : f.length = m + 1) : formB H m (.ref a) = true := by
  rw [formB_tup h, List.length_map, hl, decide_eq_true (show ((m + 1 : Nat) : Int) = (m : Int) + 1 by omega), Bool.true_and, List.all_map, List.all_eq_true]
  exact fun x hx => decide_eq_true (show (0 : Int) ≤ ((x : Nat) : Int) by omega)
end
end K13

set_option Elab.async false
set_option linter.all false
set_option maxRecDepth 100000
set_option maxHeartbeats 4000000
namespace K13
open PySem PySem.Spec PyProof.Rows L2 CK SX NM
theorem re_st {t : TS} {D : Ends} {σ σ' : L2.St} {H : Hp} (e : σ = σ') (h : t D σ' H) : t D σ H := by
  subst e
  exact h
theorem slice_mid {a : List Nat} {i j : Nat} (h : i ≤ j) (hj : j ≤ a.length) : Txt.slice (S a) (some (i : Int)) (some (j : Int)) = S ((a.drop i).take (j - i)) := by
  have e := beq_iff_eq.mp (slice_closesL (x := S a) (i := (i : Int)) (j := (j : Int)) (by omega) (by omega) (by rw [S_len]; omega))
  refine e.trans (TL.ext_tl ?_)
  show (a.drop (i : Int).toNat).take ((j : Int) - (i : Int)).toNat = (a.drop i).take (j - i)
  congr 1
  omega
theorem lcp_mid {a b : WM.W} {lo mid : Nat} (h1 : lo ≤ WM.lcp a b) (h2 : lo ≤ mid) (ha : mid ≤ a.length) (hb : mid ≤ b.length) :
    (a.drop lo).take (mid - lo) = (b.drop lo).take (mid - lo) ↔ mid ≤ WM.lcp a b := by
  have sp : ∀ z : WM.W, z.take mid = z.take lo ++ (z.drop lo).take (mid - lo) := fun z => by
    have : mid = lo + (mid - lo) := by omega
    conv => lhs; rw [this]
    rw [List.take_add]
  rw [← WM.lcp_iff ha hb, sp a, sp b, WM.lcp_take a b lo h1]
  constructor
  · intro h
    rw [h]
  · intro h
    exact List.append_cancel_left h
section
variable {X : Cx}
/-- s * n, up to a million letters -/
theorem op_repM : OpR X (binaryOp .Mult) (fun x y H Q => ∃ (z : List Nat) (n : Nat), x = .str (S z) ∧ y = .int n ∧ n ≤ 1000000 ∧ z.length ≤ 1000000 ∧ n * z.length ≤ 1000000 ∧ Q (.str (S (List.replicate n z).flatten)) H) := by
  intro pins s σ H x y v u Q I rx ry h
  obtain ⟨z, n, rfl, rfl, hn, hz, hm, q⟩ := h
  obtain ⟨t, rfl⟩ := rx
  obtain ⟨t', rfl⟩ := ry
  have hl : (List.replicate n z).flatten.length = n * z.length := by simp
  refine P.mul_str (by simp; omega) (fun h1 h2 => ?_) (fun h1 h2 => ?_) ?_
  · rw [S_len]
    have hn0 : (0 : Int) < n := by omega
    have h3 : (1000000 : Int) ≤ (2 ^ 63 - 1) / (n : Int) := by
      refine (Int.le_ediv_iff_mul_le hn0).mpr ?_
      have : (1000000 : Int) * n ≤ 1000000 * 1000000 := Int.mul_le_mul_of_nonneg_left (by omega) (by decide)
      omega
    omega
  · rw [S_len, Int.toNat_natCast, Nat.mul_comm]
    have : n * z.length ≤ sizeLine := by rw [sizeLine_eq]; omega
    unfold Builtin.Str.tooLong
    simp
    omega
  · by_cases h1 : (n : Int) < 1
    · rw [if_pos h1]
      have e : n = 0 := by omega
      subst e
      exact ⟨by decide, .str _, H, I.tok _, ⟨_, rfl⟩, q⟩
    · rw [if_neg h1]
      by_cases h2 : ((n : Int) == 1 || (S z).length == 0) = true
      · rw [if_pos h2]
        have e : (List.replicate n z).flatten = z := by
          rw [Bool.or_eq_true, beq_iff_eq, beq_iff_eq, S_len] at h2
          rcases h2 with h2 | h2
          · have : n = 1 := by omega
            subst this
            simp
          · rw [List.length_eq_zero_iff.mp h2]
            simp
        rw [e] at q
        exact ⟨.str _, H, I, ⟨_, rfl⟩, q⟩
      · rw [if_neg h2]
        have e : (⟨(List.replicate (n : Int).toNat (S z).cps).foldl (· ++ ·) #[]⟩ : Str) = S (List.replicate n z).flatten := by
          refine TL.ext_tl ?_
          show ((List.replicate (n : Int).toNat (S z).cps).foldl (· ++ ·) #[]).toList = _
          rw [Int.toNat_natCast, foldl_arr]
          rfl
        rw [e]
        exact ⟨by rw [S_len, hl, sizeLine_eq]; omega, .str _, H, I.tok _, ⟨_, rfl⟩, q⟩
end
section
variable {P : Program} {w : World} {K : PySem.W.Frag} {mg : Str → Option Value} {base : Heap} {C : Addr}
/-! ### words -/
theorem fmodZ (i : Int) {n : Nat} (h : n ≠ 0) : ∃ k : Nat, i.fmod (n : Int) = k ∧ k < n := by
  have h0 : 0 ≤ i.fmod (n : Int) := Int.fmod_nonneg_of_pos i (by omega)
  have h1 : i.fmod (n : Int) < n := Int.fmod_lt_of_pos i (by omega)
  exact ⟨(i.fmod n).toNat, by omega, by omega⟩
def rotZ (z : List Nat) (i : Int) : List Nat := z.drop (i.fmod (z.length : Int)).toNat ++ z.take (i.fmod (z.length : Int)).toNat
theorem fmod_neg (k : Nat) {n : Nat} (h : 0 < n) : (-(k : Int)).fmod (n : Int) = (((n - k % n) % n : Nat) : Int) := by
  have hm := Nat.mod_lt k h
  have hd := Nat.mod_add_div k n
  rw [Int.fmod_eq_emod_of_nonneg _ (by omega)]
  have e : (-(k : Int)) = ((n - k % n : Nat) : Int) + (n : Int) * (-((k / n : Nat) : Int) - 1) := by
    have : ((n - k % n : Nat) : Int) = (n : Int) - ((k % n : Nat) : Int) := by omega
    rw [this]
    have h2 : (k : Int) = ((k % n : Nat) : Int) + (n : Int) * ((k / n : Nat) : Int) := by
      have := congrArg (fun z : Nat => (z : Int)) hd
      simp only [Int.natCast_add, Int.natCast_mul] at this
      exact this.symm
    rw [Int.mul_sub, Int.mul_neg, Int.mul_one]
    omega
  rw [e, Int.add_mul_emod_self_left]
  rfl
theorem rotZ_neg {z : List Nat} (h : z ≠ []) (k : Nat) : rotZ z (-(k : Int)) = rotR z k := by
  have n0 := List.length_pos_iff.mpr h
  unfold rotZ rotR
  rw [fmod_neg k n0, Int.toNat_natCast]
  by_cases e : k % z.length = 0
  · rw [e, Nat.sub_zero, Nat.mod_self]
    simp
  · have hm := Nat.mod_lt k n0
    rw [Nat.mod_eq_of_lt (show z.length - k % z.length < z.length by omega)]
def sp_turned : Sp := fun vs H Q _ => ∃ (z : List Nat) (k : Int), vs = [.str (S z), .int k] ∧ z.length ≤ 1000000 ∧ z ≠ [] ∧ Q (.str (S (rotZ z k))) H
theorem c_turned_word (T : Txt K mg C) : C8.Cal P w K mg base 1 "turned_word" sp_turned [] := by
  refine calF T.d_turned_word sc_turned_word (fun vs H Q E h => ?_) (fun f cdv A outer s H vs Q E hr h => ?_)
  · obtain ⟨_, _, rfl, _⟩ := h; rfl
  · obtain ⟨z, k, rfl, hl, ne, q⟩ := h
    have n0 := List.length_pos_iff.mpr ne
    refine ⟨_, (pss_cons (ps_if (pt_not (pt_truth (pv 0) (by intro _; rfl)))
    (pss_one (ps_ret (pv 0)))
    pss_nil)
    (pss_cons (ps_set (i := 2) sc_turned_word.nd rfl (Or.inl rfl) (pe_op op_modN (pv 1) (pe_callB call_len_str (by rfl) T.m_len (by decide +kernel) (pa_cons (pv 0) pa_nil))))
    (pss_one (ps_ret (pe_op op_add_str (pe_slice C8.sl_txt (pv 0) (po_some (pv 2)) po_none) (pe_slice C8.sl_txt (pv 0) po_none (po_some (pv 2)))))))), ?_⟩
    refine ⟨_, rfl, true, ⟨len_line hl, by rw [S_len]; symm; rw [bne_iff_ne]; omega⟩, iteF ?_⟩
    obtain ⟨m, hm, hlt⟩ := fmodZ k (show z.length ≠ 0 by omega)
    refine ⟨_, rfl, _, rfl, S z, rfl, len_line hl, k, z.length, rfl, congrArg (fun n : Nat => V.int n) (S_len z), by omega, ?_⟩
    refine ⟨_, rfl, _, rfl, m, congrArg V.int hm, S z, rfl, len_line hl, _, rfl, _, rfl, m, congrArg V.int hm, S z, rfl, len_line hl, ?_⟩
    rw [SX.slice_from (by omega), SX.slice_to (by omega), Int.toNat_natCast]
    refine ⟨_, _, rfl, rfl, ?_, ?_⟩
    · rw [S_len, S_len, List.length_drop, List.length_take, sizeLine_eq]
      omega
    · rw [S_cat]
      unfold rotZ at q
      rw [hm, Int.toNat_natCast] at q
      exact q
theorem stretch_tail {u : List Nat} (h : u ≠ []) (n k : Nat) (hk : (u.length - n % u.length) % u.length + n ≤ u.length * k) :
    ((List.replicate k u).flatten.drop ((u.length - n % u.length) % u.length)).take n = tailE u n := by
  have n0 := List.length_pos_iff.mpr h
  have l : (List.replicate k u).flatten.length = u.length * k := WM.pw_len u k
  refine List.ext_getElem? fun i => ?_
  by_cases hi : i < n
  · rw [List.getElem?_take_of_lt hi, List.getElem?_drop, tailE_get h hi]
    have := WM.pw_get h k ((u.length - n % u.length) % u.length + i) (by omega)
    unfold WM.pw at this
    rw [this]
    congr 1
    rw [Nat.mod_add_mod, Nat.add_comm]
  · rw [List.getElem?_eq_none (by rw [List.length_take]; omega), List.getElem?_eq_none (by rw [tailE_len h]; omega)]
def sp_stretch : Sp := fun vs H Q _ => ∃ (u : List Nat) (n : Nat), vs = [.str (S u), .int (-(n : Int)), .int n] ∧ u ≠ [] ∧ u.length ≤ 100000 ∧ n ≤ 100000 ∧ Q (.str (S (tailE u n))) H
theorem c_stretch (T : Txt K mg C) : C8.Cal P w K mg base 1 "stretch" sp_stretch [] := by
  refine calF T.d_stretch sc_stretch (fun vs H Q E h => ?_) (fun f cdv A outer s H vs Q E hr h => ?_)
  · obtain ⟨_, _, rfl, _⟩ := h; rfl
  · obtain ⟨u, n, rfl, ne, hu, hn, q⟩ := h
    have n0 := List.length_pos_iff.mpr ne
    refine ⟨_, (pss_cons (ps_set (i := 3) sc_stretch.nd rfl (Or.inl rfl) (pe_op op_modN (pv 1) (pe_callB call_len_str (by rfl) T.m_len (by decide +kernel) (pa_cons (pv 0) pa_nil))))
    (pss_one (ps_ret (pe_slice C8.sl_txt (pe_op op_repM (pv 0) (pe_op op_add (pe_op op_fdivZ (pe_op op_add (pv 3) (pv 2)) (pe_callB call_len_str (by rfl) T.m_len (by decide +kernel) (pa_cons (pv 0) pa_nil))) pe_int)) (po_some (pv 3)) (po_some (pe_op op_add (pv 3) (pv 2))))))), ?_⟩
    have hm := fmod_neg n n0
    generalize ha : (u.length - n % u.length) % u.length = a at hm
    have alt : a < u.length := by rw [← ha]; exact Nat.mod_lt _ n0
    refine ⟨_, rfl, _, rfl, S u, rfl, len_line (by omega), -(n : Int), u.length, rfl, congrArg (fun n : Nat => V.int n) (S_len u), by omega, ?_⟩
    have hdm := Nat.div_add_mod (a + n) u.length
    have hml := Nat.mod_lt (a + n) n0
    have dl : (a + n) / u.length ≤ a + n := Nat.div_le_self _ _
    refine ⟨_, rfl, _, rfl, _, rfl, a, n, congrArg V.int hm, rfl, _, rfl, S u, rfl, len_line (by omega), a + n, u.length, congrArg V.int (by omega), congrArg (fun n : Nat => V.int n) (S_len u), by omega, by omega, _, _, rfl, rfl, u, (a + n) / u.length + 1, rfl, congrArg V.int (by omega), by omega, by omega, ?_, ?_⟩
    · rw [Nat.add_mul, Nat.one_mul, Nat.mul_comm]
      omega
    · have l : (List.replicate ((a + n) / u.length + 1) u).flatten.length = u.length * ((a + n) / u.length + 1) := WM.pw_len u _
      have hle : a + n ≤ u.length * ((a + n) / u.length + 1) := by rw [Nat.mul_succ]; omega
      refine ⟨_, rfl, a, congrArg V.int hm, _, rfl, _, rfl, a, n, congrArg V.int hm, rfl, ((a + n : Nat) : Int), congrArg V.int (by omega), S _, rfl, ?_, ?_⟩
      · rw [S_len, l, Nat.mul_succ, sizeLine_eq]
        omega
      · rw [slice_mid (by omega) (by rw [l]; exact hle), show a + n - a = n by omega, ← ha, stretch_tail ne n _ (by rw [ha]; exact hle)]
        exact q
def sp_alike : Sp := fun vs H Q _ => ∃ (a b : List Nat), vs = [.str (S a), .str (S b)] ∧ a.length ≤ 1000000 ∧ b.length ≤ 1000000 ∧ Q (.int (WM.lcp a b : Nat)) H
theorem c_alike_ahead (T : Txt K mg C) : C8.Cal P w K mg base 1 "alike_ahead" sp_alike [] := by
  refine calF T.d_alike_ahead sc_alike_ahead (fun vs H Q E h => ?_) (fun f cdv A outer s H vs Q E hr h => ?_)
  · obtain ⟨_, _, rfl, _⟩ := h; rfl
  · obtain ⟨a, b, rfl, ha, hb, q⟩ := h
    refine ⟨_, (pss_cons (ps_par (i := 2) (j := 3) (by rfl) sc_alike_ahead.nd rfl rfl (by decide) rfl rfl (pa_cons pe_int (pa_cons (pe_callB (call_min2 rfl) (by rfl) T.m_min (by decide +kernel) (pa_cons (pe_callB call_len_str (by rfl) T.m_len (by decide +kernel) (pa_cons (pv 0) pa_nil)) (pa_cons (pe_callB call_len_str (by rfl) T.m_len (by decide +kernel) (pa_cons (pv 1) pa_nil)) pa_nil))) pa_nil)) (by rfl))
    (pss_cons (ps_if (pt_cmpR op_eq (pe_slice C8.sl_txt (pv 0) po_none (po_some (pv 3))) (pe_slice C8.sl_txt (pv 1) po_none (po_some (pv 3))) (nomark _))
    (pss_one (ps_ret (pv 3)))
    pss_nil)
    (pss_cons (ps_while PassesOwn.never (pt_cmpR op_gt (pe_op op_sub (pv 3) (pv 2)) pe_int (nomark _))
    (pss_cons (ps_set (i := 4) sc_alike_ahead.nd rfl (Or.inl rfl) (pe_op op_fdivZ (pe_op op_add (pv 2) (pv 3)) pe_int))
    (pss_one (ps_if (pt_cmpR op_eq (pe_slice C8.sl_txt (pv 0) (po_some (pv 2)) (po_some (pv 4))) (pe_slice C8.sl_txt (pv 1) (po_some (pv 2)) (po_some (pv 4))) (nomark _))
    (pss_one (ps_set (i := 2) sc_alike_ahead.nd rfl (Or.inl rfl) (pv 4)))
    (pss_one (ps_set (i := 3) sc_alike_ahead.nd rfl (Or.inl rfl) (pv 4)))))))
    (pss_one (ps_ret (pv 2)))))), ?_⟩
    have lle := WM.lcp_le a b
    obtain ⟨m, hma, hmb, hm, hmm⟩ : ∃ m : Nat, m ≤ a.length ∧ m ≤ b.length ∧ (if (((S b).length : Nat) : Int) < (((S a).length : Nat) : Int) then (((S b).length : Nat) : Int) else (((S a).length : Nat) : Int)) = m ∧ (a.length ≤ m ∨ b.length ≤ m) := by
      rw [S_len, S_len]
      by_cases z : (b.length : Int) < a.length
      · exact ⟨b.length, by omega, by omega, if_pos z, .inr (Nat.le_refl _)⟩
      · exact ⟨a.length, by omega, by omega, if_neg z, .inl (Nat.le_refl _)⟩
    refine ⟨_, rfl, S a, rfl, len_line ha, _, rfl, S b, rfl, len_line hb, _, _, rfl, .int 0, .int m, congrArg (fun z => [V.int 0, V.int z]) hm, ?_⟩
    refine ⟨_, rfl, _, rfl, m, rfl, S a, rfl, len_line ha, _, rfl, _, rfl, m, rfl, S b, rfl, len_line hb, rfl, _, rfl, ?_⟩
    rw [SX.slice_to (by omega), SX.slice_to (by omega), Int.toNat_natCast]
    refine ite2 (fun e => ?_) (fun e => ?_)
    · have e' := S_inj (V.str.inj (of_decide_eq_true e))
      have := WM.le_lcp a b m hma hmb e'
      refine ⟨_, rfl, ?_⟩
      rw [show m = WM.lcp a b by omega]
      exact q
    · have e' : WM.lcp a b < m := by
        by_cases z : WM.lcp a b < m
        · exact z
        · exact absurd (decide_eq_true (congrArg (fun l => V.str (S l)) (WM.lcp_take a b m (by omega)))) e
      refine while_by (fun σ H' => H' = H ∧ ∃ (lo hi : Nat) (zl zh : Int) (y : Option V), σ = [some (.str (S a)), some (.str (S b)), some (.int zl), some (.int zh), y] ∧ zl = lo ∧ zh = hi ∧ lo ≤ WM.lcp a b ∧ WM.lcp a b < hi ∧ hi ≤ m)
        (fun σ _ => match σ with | [_, _, some (.int zl), some (.int zh), _] => (zh - zl).toNat | _ => 0) ?_ (fun σ H' p => ?_) ?_
      · exact ⟨rfl, 0, m, _, _, none, rfl, rfl, rfl, Nat.zero_le _, e', Nat.le_refl _⟩
      · obtain ⟨rfl, lo, hi, zl, zh, y, rfl, rfl, rfl, h1, h2, h3⟩ := p
        refine ⟨_, rfl, _, rfl, _, _, rfl, rfl, _, _, rfl, rfl, _, rfl, ite2 (fun c => ?_) (fun c => ?_)⟩
        · have c' : lo + 1 < hi := by
            have := of_decide_eq_true c
            omega
          refine ⟨_, rfl, _, rfl, _, _, rfl, rfl, lo + hi, 2, congrArg V.int (by omega), rfl, by decide, by decide, ?_⟩
          have m1 : lo < (lo + hi) / 2 := by omega
          have m2 : (lo + hi) / 2 < hi := by omega
          generalize (lo + hi) / 2 = md at m1 m2
          refine ⟨_, rfl, _, rfl, lo, rfl, _, rfl, md, rfl, S a, rfl, len_line ha, _, rfl, _, rfl, lo, rfl, _, rfl, md, rfl, S b, rfl, len_line hb, rfl, _, rfl, ?_⟩
          rw [slice_mid (by omega) (by omega), slice_mid (by omega) (by omega)]
          have iff := lcp_mid (a := a) (b := b) (lo := lo) (mid := md) h1 (by omega) (by omega) (by omega)
          refine ite2 (fun d => ?_) (fun d => ?_)
          · have d' := iff.mp (S_inj (V.str.inj (of_decide_eq_true d)))
            refine ⟨_, rfl, ⟨rfl, md, hi, _, _, _, rfl, rfl, rfl, d', h2, h3⟩, ?_⟩
            show ((hi : Int) - ((md : Nat) : Int)).toNat < ((hi : Int) - (lo : Int)).toNat
            omega
          · have d' : WM.lcp a b < md := by
              by_cases z : WM.lcp a b < md
              · exact z
              · exact absurd (decide_eq_true (congrArg (fun l => V.str (S l)) (iff.mpr (by omega)))) d
            refine ⟨_, rfl, ⟨rfl, lo, md, _, _, _, rfl, rfl, rfl, h1, d', by omega⟩, ?_⟩
            show (((md : Nat) : Int) - (lo : Int)).toNat < ((hi : Int) - (lo : Int)).toNat
            omega
        · have c' : lo = WM.lcp a b := by
            have : ¬ ((hi : Int) - lo > 1) := fun z => c (decide_eq_true z)
            omega
          subst c'
          exact ⟨_, rfl, q⟩
      · intro σ H' Q1 Q2 hq h
        obtain ⟨a1, h1, a2, h2, a3, a4, h3, h4, a5, a6, h5, h6, k, h7, h⟩ := h
        exact ⟨a1, h1, a2, h2, a3, a4, h3, h4, a5, a6, h5, h6, k, h7, hq _ _ h⟩
def sp_behind : Sp := fun vs H Q _ => ∃ (a b : List Nat), vs = [.str (S a), .str (S b)] ∧ a.length ≤ 1000000 ∧ b.length ≤ 1000000 ∧ Q (.int (WM.lcp a.reverse b.reverse : Nat)) H
theorem c_alike_behind (T : Txt K mg C) : C8.Cal P w K mg base 2 "alike_behind" sp_behind [] := by
  refine calF T.d_alike_behind sc_alike_behind (fun vs H Q E h => ?_) (fun f cdv A outer s H vs Q E hr h => ?_)
  · obtain ⟨_, _, rfl, _⟩ := h; rfl
  · obtain ⟨a, b, rfl, ha, hb, q⟩ := h
    refine ⟨_, (pss_one (ps_ret (C8.pe_c (c_alike_ahead T) hr (by decide) (by rfl) (pa_cons (pe_revS (pv 0)) (pa_cons (pe_revS (pv 1)) pa_nil))))), ?_⟩
    refine ⟨_, rfl, a, rfl, by rw [sizeLine_eq]; omega, _, rfl, b, rfl, by rw [sizeLine_eq]; omega, a.reverse, b.reverse, rfl, by simpa using ha, by simpa using hb, q⟩
end
end K13

set_option Elab.async false
set_option linter.all false
set_option maxRecDepth 100000
set_option maxHeartbeats 4000000
namespace K13
open PySem PySem.Spec PyProof.Rows L2 CK SX NM
/-- the borders' sizes, up to the place i -/
def szL (z : List Nat) (i : Nat) : List Nat := (List.range z.length).map fun j => if j ≤ i then WM.lb (z.take (j + 1)) else 0
theorem szL_len (z : List Nat) (i : Nat) : (szL z i).length = z.length := by simp [szL]
theorem szL_get {z : List Nat} {i j : Nat} (h : j ≤ i) (hj : j < z.length) : (szL z i)[j]? = some (WM.lb (z.take (j + 1))) := by
  unfold szL
  rw [List.getElem?_map, List.getElem?_range hj]
  simp [h]
theorem szL_zero {z : List Nat} (h : z ≠ []) : szL z 0 = List.replicate z.length 0 := by
  refine List.ext_getElem? fun j => ?_
  unfold szL
  by_cases hj : j < z.length
  · rw [List.getElem?_map, List.getElem?_range hj, List.getElem?_replicate, if_pos hj]
    simp only [Option.map_some]
    split
    · rename_i e
      have : j = 0 := by omega
      subst this
      rw [WM.lb_one]
    · rfl
  · rw [List.getElem?_eq_none (by simp; omega), List.getElem?_eq_none (by simp; omega)]
theorem szL_set {z : List Nat} {i : Nat} (h : i + 1 < z.length) : (szL z i).set (i + 1) (WM.lb (z.take (i + 2))) = szL z (i + 1) := by
  refine List.ext_getElem? fun j => ?_
  by_cases hj : j < z.length
  · rw [List.getElem?_set]
    unfold szL
    by_cases e : i + 1 = j
    · subst e
      rw [if_pos rfl, if_pos (by simp; omega), List.getElem?_map, List.getElem?_range hj]
      simp
    · rw [if_neg e, List.getElem?_map, List.getElem?_map, List.getElem?_range hj]
      simp only [Option.map_some]
      congr 1
      by_cases a : j ≤ i
      · rw [if_pos a, if_pos (by omega)]
      · rw [if_neg a, if_neg (by omega)]
  · rw [List.getElem?_eq_none (by simp [szL]; omega), List.getElem?_eq_none (by simp [szL]; omega)]
def natsV (ns : List Nat) : List V := ns.map fun n : Nat => V.int (n : Nat)
theorem natsV_get {ns : List Nat} {i n : Nat} (h : ns[i]? = some n) : (natsV ns)[i]? = some (.int (n : Nat)) := by
  unfold natsV
  rw [List.getElem?_map, h]
  rfl
theorem natsV_set (ns : List Nat) (i n : Nat) : (natsV ns).set i (.int (n : Nat)) = natsV (ns.set i n) := by
  unfold natsV
  rw [List.map_set]
theorem natsV_len (ns : List Nat) : (natsV ns).length = ns.length := by simp [natsV]
section
variable {P : Program} {w : World} {K : PySem.W.Frag} {mg : Str → Option Value} {base : Heap} {C : Addr}
def sp_border : Sp := fun vs H Q _ => ∃ (z : List Nat), vs = [.str (S z)] ∧ z ≠ [] ∧ z.length ≤ 1000000 ∧ ∀ p H', Same H H' → H p = none → H' p = some (.lst (natsV (szL z (z.length - 1)))) → Q (.ref p) H'
theorem c_border_sizes (T : Txt K mg C) : C8.Cal P w K mg base 1 "border_sizes" sp_border [] := by
  refine calF T.d_border_sizes sc_border_sizes (fun vs H Q E h => ?_) (fun f cdv A outer s H vs Q E hr h => ?_)
  · obtain ⟨_, rfl, _⟩ := h; rfl
  · obtain ⟨z, rfl, ne, hz, q⟩ := h
    have n0 := List.length_pos_iff.mpr ne
    refine ⟨_, (pss_cons (ps_set (i := 1) sc_border_sizes.nd rfl (Or.inl rfl) (pe_op op_rep (pe_lst (pa_cons pe_int pa_nil)) (pe_callB call_len_str (by rfl) T.m_len (by decide +kernel) (pa_cons (pv 0) pa_nil))))
    (pss_cons (ps_set (i := 2) sc_border_sizes.nd rfl (Or.inl rfl) pe_int)
    (pss_cons (ps_for PassesOwn.never rfl (pi_range2 (by rfl) T.m_range (pa_cons pe_int (pa_cons (pe_callB call_len_str (by rfl) T.m_len (by decide +kernel) (pa_cons (pv 0) pa_nil)) pa_nil))) (pg_name (i := 3) sc_border_sizes.nd rfl (Or.inl rfl))
    (pss_cons (ps_while PassesOwn.never (PW.pt (pw_and (pt_truth (pv 2) (by intro _; rfl)) (pw_and1 (pt_cmpR op_ne (pe_ix ix_str (pv 0) (pv 3) (fun _ _ => rfl)) (pe_ix ix_str (pv 0) (pv 2) (fun _ _ => rfl)) (nomark _)))))
    (pss_one (ps_set (i := 2) sc_border_sizes.nd rfl (Or.inl rfl) (pe_ix ix_list (pv 1) (pe_op op_sub (pv 2) pe_int) (fun _ _ => rfl)))))
    (pss_cons (ps_if (pt_cmpR op_eq (pe_ix ix_str (pv 0) (pv 3) (fun _ _ => rfl)) (pe_ix ix_str (pv 0) (pv 2) (fun _ _ => rfl)) (nomark _))
    (pss_one (ps_aug (i := 2) sc_border_sizes.nd rfl (.inl rfl) pe_int ip_add))
    pss_nil)
    (pss_one (ps_asg (pv 2) (pg_sub (pv 1) (pv 3) set_list))))))
    (pss_one (ps_ret (pv 1)))))), ?_⟩
    refine ⟨by show 1 ≤ sizeLine; decide, fun L0 h0 => ⟨_, rfl, S z, rfl, len_line hz, L0, _, _, rfl, rfl, upd_same, by omega, by rw [S_len]; omega, by rw [S_len, sizeLine_eq]; simp; omega, fun p hp => ?_⟩⟩
    have s0 := (sameNew (o := .lst [V.int 0]) h0).trans (sameNew (o := .lst (List.replicate (((S z).length : Nat) : Int).toNat [V.int 0]).flatten) hp)
    have hp0 : H p = none := (sameNew (o := .lst [V.int 0]) h0).free hp
    have e0 : (List.replicate (((S z).length : Nat) : Int).toNat [V.int 0]).flatten = natsV (szL z 0) := by
      rw [S_len, Int.toNat_natCast, szL_zero ne]
      unfold natsV
      rw [List.map_replicate]
      generalize z.length = k
      induction k with
      | zero => rfl
      | succ k ih => rw [List.replicate_succ, List.flatten_cons, ih, List.replicate_succ]; rfl
    rw [e0] at s0 ⊢
    have hpl : (upd (upd H L0 (.lst [V.int 0])) p (.lst (natsV (szL z 0)))) p = some (.lst (natsV (szL z 0))) := upd_same
    generalize upd (upd H L0 (.lst [V.int 0])) p (.lst (natsV (szL z 0))) = H1 at s0 hpl
    refine ⟨_, rfl, S z, rfl, len_line hz, 1, _, rfl, ⟨by omega, by omega, by omega, by rw [S_len]; omega⟩, ?_⟩
    refine for_it walk_range (fun i σ H' => i ≤ z.length - 1 ∧ SameX p H1 H' ∧ H' p = some (.lst (natsV (szL z i))) ∧ ∃ (zs : Int) (y3 : Option V), σ = [some (.str (S z)), some (.ref p), some (.int zs), y3] ∧ zs = ((WM.lb (z.take (i + 1)) : Nat) : Int))
      ⟨by omega, .refl _ _, hpl, 0, none, rfl, by rw [WM.lb_one]; rfl⟩ (fun _ _ _ _ _ => True.intro) (fun i x σ H' H'' hi pI yy => ?_) fun σ H' pI => ?_
    · obtain ⟨_, s1, hl1, zs, y3, rfl, rfl⟩ := pI
      obtain ⟨rfl, rfl⟩ := yy
      have hi' : i + 1 < z.length := by
        have : i < ((((S z).length : Nat) : Int) - 1).toNat := hi
        rw [S_len] at this
        omega
      have zn : z[i + 1]? = some z[i + 1] := List.getElem?_eq_getElem hi'
      generalize z[i + 1] = cn at zn
      have cand0 : WM.Cand z (i + 1) (WM.lb (z.take (i + 1))) := WM.cand_start (by omega) (by omega)
      refine while_by (fun σ H2 => H2 = H'' ∧ ∃ (s' : Nat) (zs : Int), σ = [some (.str (S z)), some (.ref p), some (.int zs), some (.int (1 + (i : Int)))] ∧ zs = s' ∧ WM.Cand z (i + 1) s')
        (fun σ _ => match σ with | [_, _, some (.int zs), _] => zs.toNat | _ => 0) ⟨rfl, _, _, rfl, rfl, cand0⟩ (fun σ H2 pJ => ?_) ?_
      · obtain ⟨rfl, s', zs, rfl, rfl, cand⟩ := pJ
        have slt := cand.1
        have zk : z[s']? = some z[s'] := List.getElem?_eq_getElem (by omega)
        generalize z[s'] = ck at zk
        refine ⟨_, rfl, _, rfl, ?_⟩
        by_cases z0 : s' = 0
        · subst z0
          refine iteF ?_
          refine ⟨_, rfl, _, rfl, S z, 1 + (i : Int), cn, rfl, rfl, len_line hz, ?_, _, rfl, _, rfl, S z, ((0 : Nat) : Int), ck, rfl, rfl, len_line hz, atI_nat (xs := z) zk, rfl, _, rfl, ?_⟩
          · rw [show 1 + (i : Int) = ((i + 1 : Nat) : Int) by omega]
            exact atI_nat (xs := z) zn
          refine ite2 (fun e => ?_) (fun e => ?_)
          · have ec : cn = ck := by
              have := S_inj (a := [cn]) (b := [ck]) (V.str.inj (of_decide_eq_true e))
              simpa using this
            have hit := WM.cand_hit hi' cand (by rw [zk, zn, ec])
            refine ⟨_, rfl, _, _, rfl, rfl, _, rfl, _, rfl, _, rfl, p, _, 1 + (i : Int), i + 1, rfl, rfl, hl1, ?_, ?_⟩
            · unfold ixN
              rw [natsV_len, szL_len, if_pos (by omega), if_pos (by omega)]
              congr 1
              omega
            · refine ⟨by omega, fun b o hb e => by rw [upd_ne hb]; exact s1 b o hb e, ?_, _, _, rfl, by rw [show i + 1 + 1 = i + 2 by omega] at hit ⊢; rw [hit]; rfl⟩
              rw [upd_same]
              have := natsV_set (szL z i) (i + 1) (WM.lb (z.take (i + 2)))
              rw [szL_set hi', show i + 2 = i + 1 + 1 by omega, hit] at this
              rw [← this]
              rfl
          · have nc : z[0]? ≠ z[i + 1]? := by
              rw [zk, zn]
              intro y
              exact e (decide_eq_true (by rw [Option.some.inj y]))
            have miss := WM.cand_miss hi' cand nc
            refine ⟨_, rfl, _, rfl, _, rfl, p, _, 1 + (i : Int), i + 1, rfl, rfl, hl1, ?_, ?_⟩
            · unfold ixN
              rw [natsV_len, szL_len, if_pos (by omega), if_pos (by omega)]
              congr 1
              omega
            · refine ⟨by omega, fun b o hb e => by rw [upd_ne hb]; exact s1 b o hb e, ?_, _, _, rfl, by rw [miss]⟩
              rw [upd_same]
              have := natsV_set (szL z i) (i + 1) (WM.lb (z.take (i + 2)))
              rw [szL_set hi', show i + 2 = i + 1 + 1 by omega, miss] at this
              rw [← this]
        · have tz : ((((s' : Nat) : Int)) != 0) = true := by rw [bne_iff_ne]; omega
          rw [tz]
          refine iteT ?_
          refine ⟨_, rfl, _, rfl, S z, 1 + (i : Int), cn, rfl, rfl, len_line hz, ?_, _, rfl, _, rfl, S z, ((s' : Nat) : Int), ck, rfl, rfl, len_line hz, atI_nat (xs := z) zk, rfl, _, rfl, ?_⟩
          · rw [show 1 + (i : Int) = ((i + 1 : Nat) : Int) by omega]
            exact atI_nat (xs := z) zn
          by_cases ec : cn = ck
          · refine iteNS (by rw [ec]) ?_
            refine ⟨_, rfl, _, rfl, S z, 1 + (i : Int), cn, rfl, rfl, len_line hz, ?_, _, rfl, _, rfl, S z, ((s' : Nat) : Int), ck, rfl, rfl, len_line hz, atI_nat (xs := z) zk, rfl, _, rfl, ?_⟩
            · rw [show 1 + (i : Int) = ((i + 1 : Nat) : Int) by omega]
              exact atI_nat (xs := z) zn
            rw [ec, decide_eq_true rfl]
            have hit := WM.cand_hit hi' cand (by rw [zk, zn, ec])
            refine iteT ⟨_, rfl, _, _, rfl, rfl, _, rfl, _, rfl, _, rfl, p, _, 1 + (i : Int), i + 1, rfl, rfl, hl1, ?_, ?_⟩
            · unfold ixN
              rw [natsV_len, szL_len, if_pos (by omega), if_pos (by omega)]
              congr 1
              omega
            · refine ⟨by omega, fun b o hb e => by rw [upd_ne hb]; exact s1 b o hb e, ?_, _, _, rfl, by rw [show i + 1 + 1 = i + 2 by omega] at hit ⊢; rw [hit]; rfl⟩
              rw [upd_same]
              have := natsV_set (szL z i) (i + 1) (WM.lb (z.take (i + 2)))
              rw [szL_set hi', show i + 2 = i + 1 + 1 by omega, hit] at this
              rw [← this]
              rfl
          · have hd : z[s']? ≠ z[i + 1]? := by
              rw [zk, zn]
              intro y
              exact ec (Option.some.inj y).symm
            have down := WM.cand_down (by omega) cand (by omega) hd
            have : (!decide (V.str (S [cn]) = V.str (S [ck]))) = true := by
              rw [decide_eq_false (fun y => ec (by simpa using S_inj (a := [cn]) (b := [ck]) (V.str.inj y)))]
              rfl
            rw [show (⟨#[cn]⟩ : Str) = S [cn] from rfl, show (⟨#[ck]⟩ : Str) = S [ck] from rfl, this]
            have get := szL_get (z := z) (i := i) (j := s' - 1) (by omega) (by omega)
            rw [show s' - 1 + 1 = s' by omega] at get
            refine iteT ⟨_, rfl, _, rfl, _, _, rfl, rfl, p, _, _, .int ((WM.lb (z.take s') : Nat) : Int), rfl, rfl, .inl (.inl hl1), ?_, ⟨rfl, WM.lb (z.take s'), _, rfl, rfl, down⟩, ?_⟩
            · rw [show ((s' : Nat) : Int) - 1 = ((s' - 1 : Nat) : Int) by omega]
              exact atI_nat (natsV_get get)
            · show (((WM.lb (z.take s') : Nat) : Int)).toNat < (((s' : Nat) : Int)).toNat
              have := WM.lb_lt (w := z.take s') (fun y => by have := congrArg List.length y; rw [List.length_take, List.length_nil] at this; omega)
              rw [List.length_take] at this
              omega
      · intro σ H' Q1 Q2 hq h
        obtain ⟨a1, h1, k, h2, h⟩ := h
        refine ⟨a1, h1, k, h2, ?_⟩
        cases k with
        | false => exact hq _ _ h
        | true =>
          obtain ⟨a1, h1, a2, h2, a3, a4, a5, h3, h4, h5, h6, a6, h7, a7, h8, a8, a9, a10, h9, h10, h11, h12, h13, k, h14, h⟩ := h
          exact ⟨a1, h1, a2, h2, a3, a4, a5, h3, h4, h5, h6, a6, h7, a7, h8, a8, a9, a10, h9, h10, h11, h12, h13, k, h14, hq _ _ h⟩
    · obtain ⟨_, s1, hl1, zs, y3, rfl, rfl⟩ := pI
      have en : ((((S z).length : Nat) : Int) - 1).toNat = z.length - 1 := by rw [S_len]; omega
      rw [en] at hl1
      refine ⟨_, rfl, q p H' (fun b o e => ?_) hp0 hl1⟩
      have hb : b ≠ p := fun y => by rw [y, hp0] at e; cases e
      exact s1 _ _ hb (s0 _ _ e)
def sp_root : Sp := fun vs H Q _ => ∃ (z : List Nat), vs = [.str (S z)] ∧ z ≠ [] ∧ z.length ≤ 1000000 ∧ ∀ H', Same H H' → Q (.int (WM.rootN z : Nat)) H'
theorem c_root_size (T : Txt K mg C) : C8.Cal P w K mg base 2 "root_size" sp_root [] := by
  refine calF T.d_root_size sc_root_size (fun vs H Q E h => ?_) (fun f cdv A outer s H vs Q E hr h => ?_)
  · obtain ⟨_, rfl, _⟩ := h; rfl
  · obtain ⟨z, rfl, ne, hz, q⟩ := h
    have n0 := List.length_pos_iff.mpr ne
    have lt := WM.lb_lt ne
    refine ⟨_, (pss_cons (ps_set (i := 1) sc_root_size.nd rfl (Or.inl rfl) (pe_op op_sub (pe_callB call_len_str (by rfl) T.m_len (by decide +kernel) (pa_cons (pv 0) pa_nil)) (pe_ix ix_list (C8.pe_c (c_border_sizes T) hr (by decide) (by rfl) (pa_cons (pv 0) pa_nil)) (pe_un un_neg pe_int) (fun _ _ => rfl))))
    (pss_one (ps_ret (pe_ifExp (pt_truth (pe_op op_modZ (pe_callB call_len_str (by rfl) T.m_len (by decide +kernel) (pa_cons (pv 0) pa_nil)) (pv 1)) (by intro _; rfl)) (pe_callB call_len_str (by rfl) T.m_len (by decide +kernel) (pa_cons (pv 0) pa_nil)) (pv 1))))), ?_⟩
    refine ⟨_, rfl, S z, rfl, len_line hz, _, rfl, z, rfl, ne, hz, fun p H1 s1 n1 hp => ?_⟩
    have get := szL_get (z := z) (i := z.length - 1) (j := z.length - 1) (Nat.le_refl _) (by omega)
    rw [show z.length - 1 + 1 = z.length by omega, List.take_length] at get
    have e1 : (((S z).length : Nat) : Int) - ((WM.lb z : Nat) : Int) = ((z.length - WM.lb z : Nat) : Int) := by rw [S_len]; omega
    refine ⟨1, rfl, p, _, -1, .int (WM.lb z : Nat), rfl, rfl, .inl (.inl hp), ?_, _, _, rfl, rfl, ?_⟩
    · unfold atI ixN
      rw [natsV_len, szL_len, if_neg (by omega), if_pos (by omega)]
      show (natsV (szL z (z.length - 1)))[((-1 : Int) + z.length).toNat]? = _
      rw [show ((-1 : Int) + z.length).toNat = z.length - 1 by omega]
      exact natsV_get get
    · refine ⟨_, rfl, S z, rfl, len_line hz, _, rfl, z.length, z.length - WM.lb z, congrArg (fun n : Nat => V.int n) (S_len z), congrArg V.int e1, by omega, _, rfl, ?_⟩
      unfold WM.rootN at q
      by_cases m0 : z.length % (z.length - WM.lb z) = 0
      · rw [if_pos m0] at q
        rw [show ((((z.length % (z.length - WM.lb z) : Nat) : Int)) != 0) = false by rw [m0]; rfl]
        refine iteF ⟨_, rfl, ?_⟩
        show Q (V.int ((((S z).length : Nat) : Int) - ((WM.lb z : Nat) : Int))) H1
        rw [e1]
        exact q H1 s1
      · rw [if_neg m0] at q
        rw [show ((((z.length % (z.length - WM.lb z) : Nat) : Int)) != 0) = true by rw [bne_iff_ne]; omega]
        refine iteT ⟨_, rfl, S z, rfl, len_line hz, ?_⟩
        show Q (V.int (((S z).length : Nat) : Int)) H1
        rw [S_len]
        exact q H1 s1
/-! ### forms -/
theorem get_nat {xs : List Nat} {i : Nat} {v : V} (h : (xs.map fun n : Nat => V.int (n : Nat))[i]? = some v) : ∃ z, z ∈ xs ∧ xs[i]? = some z ∧ v = .int (z : Nat) := by
  rw [List.getElem?_map] at h
  cases e : xs[i]? with
  | none => rw [e] at h; cases h
  | some z =>
    rw [e] at h
    exact ⟨z, List.mem_of_getElem? e, rfl, (Option.some.inj h).symm⟩
def vAdd : V → V → V
  | .int i, .int j => .int (i + j)
  | _, _ => .non
theorem zip_addN : ∀ (xs ys : List Nat), List.zipWith vAdd (xs.map fun n : Nat => V.int (n : Nat)) (ys.map fun n : Nat => V.int (n : Nat)) = (addF xs ys).map fun n : Nat => V.int (n : Nat)
  | [], _ => by simp [addF]
  | _ :: _, [] => by simp [addF]
  | x :: xs, y :: ys => by
    show V.int ((x : Int) + (y : Int)) :: _ = V.int ((x + y : Nat) : Int) :: _
    rw [zip_addN xs ys]
    rfl
theorem small5 {n : Nat} (h : n ≤ 5) : n < sizeLine := small1000 (by omega)
def sp_form_sum : Sp := fun vs H Q _ => ∃ (a b : Addr) (f g : F), vs = [.ref a, .ref b] ∧ FT H a f ∧ FT H b g ∧ f.length ≤ 4 ∧ f.length = g.length ∧ ∀ p H', Same H H' → FT H' p (addF f g) → Q (.ref p) H'
theorem c_form_sum (T : Txt K mg C) : C8.Cal P w K mg base 1 "form_sum" sp_form_sum [] := by
  refine calF T.d_form_sum sc_form_sum (fun vs H Q E h => ?_) (fun f cdv A outer s H vs Q E hr h => ?_)
  · obtain ⟨_, _, _, _, rfl, _⟩ := h; rfl
  · obtain ⟨a, b, f, g, rfl, ha, hb, h4, hl, q⟩ := h
    refine ⟨_, (pss_one (ps_ret (pe_callTy call_tupL (by rfl) T.m_tuple (by decide +kernel) (pa_cons (pe_lc (own := [("left", 2), ("right", 3)]) (by rfl) sc_form_sum.nd (pi_zipB (K := K) rfl (by rfl) T.m_zip (pa_cons (pv 0) (pa_cons (pv 1) pa_nil))) (blkOk_by (N := ["one", "other", "left", "right"]) (sc := C8.fnScope (topS 16)) (own := [("left", 2), ("right", 3)]) (by decide +kernel)) (fun _ _ _ _ _ => (pg_two (K := K) (i := 2) (j := 3) rfl rfl sc_form_sum.nd rfl rfl (Or.inl rfl) (Or.inl rfl))) (fun _ _ _ _ _ => pts_nil) (fun _ _ _ _ _ => (pe_op op_add (pv 2) (pv 3)))) pa_nil)))), ?_⟩
    refine ⟨_, rfl, _, rfl, .T, .T, a, b, _, _, rfl, .inl (.inl ha), .inl (.inl hb), ?_⟩
    refine fun D hD => lcZ_map vAdd (by simp; omega) (by rw [List.length_map]; exact small5 (by omega)) (fun H' s => ⟨.inl (.inl (s _ _ ha)), .inl (.inl (s _ _ hb))⟩) (fun i x y H' R hx hy s q' => ?_) hD fun H' s hL => ?_
    · obtain ⟨x', mx, _, rfl⟩ := get_nat hx
      obtain ⟨y', my, _, rfl⟩ := get_nat hy
      exact ⟨rfl, _, rfl, _, rfl, _, _, rfl, rfl, q' _ (Same.refl _)⟩
    · rw [zip_addN] at hL
      exact ⟨D, _, rfl, hL, fun l H2 s2 h2 => q l H2 (s.trans s2) h2⟩
def Bf (f : F) : Prop := ∀ n ∈ f, n < 2 ^ 900
def sp_form_times : Sp := fun vs H Q _ => ∃ (k : Nat) (a : Addr) (f : F), vs = [.int k, .ref a] ∧ FT H a f ∧ f.length ≤ 4 ∧ k < 2 ^ 900 ∧ Bf f ∧ ∀ p H', Same H H' → FT H' p (timesF k f) → Q (.ref p) H'
theorem c_form_times (T : Txt K mg C) : C8.Cal P w K mg base 1 "form_times" sp_form_times [] := by
  refine calF T.d_form_times sc_form_times (fun vs H Q E h => ?_) (fun f cdv A outer s H vs Q E hr h => ?_)
  · obtain ⟨_, _, _, rfl, _⟩ := h; rfl
  · obtain ⟨k, a, f, rfl, ha, h4, hk, bf, q⟩ := h
    refine ⟨_, (pss_one (ps_ret (pe_callTy call_tupL (by rfl) T.m_tuple (by decide +kernel) (pa_cons (pe_lc (own := [("own", 2)]) (by rfl) sc_form_times.nd (pi_tup (pv 1)) (blkOk_by (N := ["number", "form", "own"]) (sc := C8.fnScope (topS 17)) (own := [("own", 2)]) (by decide +kernel)) (fun _ _ _ _ _ => (pg_name (i := 2) sc_form_times.nd rfl (Or.inl rfl))) (fun _ _ _ _ _ => pts_nil) (fun _ _ _ _ _ => (pe_op op_mulW (pv 0) (pv 2)))) pa_nil)))), ?_⟩
    refine ⟨_, rfl, a, rfl, ⟨_, .inl (.inl ha)⟩, ?_⟩
    refine fun D hD => lcT_map (fun x => match x with | .int j => .int ((k : Int) * j) | _ => .non) ha (by rw [List.length_map]; exact small5 (by omega)) (fun i x H' R hx s q' => ?_) hD fun H' s hL => ?_
    · obtain ⟨x', mx, _, rfl⟩ := get_nat hx
      have := bf x' mx
      exact ⟨rfl, _, rfl, _, rfl, _, _, rfl, rfl, wide_mul (a := 900) (b := 900) (by omega) (by omega) (by decide) (by decide) (by decide), q' _ (Same.refl _)⟩
    · refine ⟨D, _, rfl, hL, fun l H2 s2 h2 => q l H2 (s.trans s2) ?_⟩
      unfold FT
      rw [h2, timesF, List.map_map, List.map_map]
      congr 2
end
end K13

set_option Elab.async false
set_option linter.all false
set_option maxRecDepth 100000
set_option maxHeartbeats 4000000
namespace K13
open PySem PySem.Spec PyProof.Rows L2 CK SX NM
/-! ### pieces in the heap -/
def PC (H : Hp) (a : Addr) (p : Pn) : Prop := ∃ fa, H a = some (.tup [.str (S p.1), .ref fa]) ∧ FT H fa p.2
theorem PC.mono {H H' : Hp} {a : Addr} {p : Pn} (h : PC H a p) (s : ∀ a xs, H a = some (.tup xs) → H' a = some (.tup xs)) : PC H' a p := by
  obtain ⟨fa, h1, h2⟩ := h
  exact ⟨fa, s _ _ h1, s _ _ h2⟩
inductive Pcs (H : Hp) : List V → List Pn → Prop
  | nil : Pcs H [] []
  | cons {a : Addr} {vs : List V} {p : Pn} {ps : List Pn} : PC H a p → Pcs H vs ps → Pcs H (.ref a :: vs) (p :: ps)
theorem Pcs.mono {H H' : Hp} {vs : List V} {ps : List Pn} (h : Pcs H vs ps) (s : ∀ a xs, H a = some (.tup xs) → H' a = some (.tup xs)) : Pcs H' vs ps := by
  induction h with
  | nil => exact .nil
  | cons e _ ih => exact .cons (e.mono s) ih
theorem tup_same {H H' : Hp} (s : Same H H') : ∀ a xs, H a = some (.tup xs) → H' a = some (.tup xs) := fun a xs e => s _ _ e
theorem tup_upd {H : Hp} {l : Addr} {xs ys : List V} (hl : H l = some (.lst xs)) : ∀ a zs, H a = some (.tup zs) → (upd H l (.lst ys)) a = some (.tup zs) := fun a zs e => by
  rw [upd_ne (fun z => by rw [z, hl] at e; cases e)]
  exact e
theorem tup_sameX {l : Addr} {H H' : Hp} {xs : List V} (hl : H l = some (.lst xs)) (s : SameX l H H') : ∀ a zs, H a = some (.tup zs) → H' a = some (.tup zs) := fun a zs e =>
  s _ _ (fun z => by rw [z, hl] at e; cases e) e
theorem Pcs.same {H H' : Hp} {vs : List V} {ps : List Pn} (h : Pcs H vs ps) (s : Same H H') : Pcs H' vs ps := h.mono (tup_same s)
theorem Pcs.upd {H : Hp} {vs : List V} {ps : List Pn} {l : Addr} {xs ys : List V} (h : Pcs H vs ps) (hl : H l = some (.lst xs)) : Pcs (upd H l (.lst ys)) vs ps := h.mono (tup_upd hl)
theorem Pcs.len {H : Hp} {vs : List V} {ps : List Pn} (h : Pcs H vs ps) : vs.length = ps.length := by
  induction h with
  | nil => rfl
  | cons _ _ ih => simp [ih]
theorem Pcs.app {H : Hp} {vs us : List V} {ps qs : List Pn} (h : Pcs H vs ps) (g : Pcs H us qs) : Pcs H (vs ++ us) (ps ++ qs) := by
  induction h with
  | nil => exact g
  | cons e _ ih => exact .cons e ih
theorem Pcs.get {H : Hp} {vs : List V} {ps : List Pn} (h : Pcs H vs ps) {i : Nat} {v : V} (hi : vs[i]? = some v) : ∃ a p, v = .ref a ∧ ps[i]? = some p ∧ PC H a p := by
  induction h generalizing i with
  | nil => simp at hi
  | cons e _ ih =>
    cases i with
    | zero =>
      cases hi
      exact ⟨_, _, rfl, rfl, e⟩
    | succ i => exact ih hi
theorem Pcs.init {H : Hp} {vs : List V} {ps : List Pn} (h : Pcs H vs ps) : Pcs H vs.dropLast ps.dropLast := by
  induction h with
  | nil => exact .nil
  | cons e h ih =>
    cases h with
    | nil => exact .nil
    | cons e2 h2 => exact .cons e ih
theorem Pcs.one {H : Hp} {a : Addr} {p : Pn} (e : PC H a p) : Pcs H [.ref a] [p] := .cons e .nil
def PL (H : Hp) (l : Addr) (ps : List Pn) : Prop := ∃ vs, H l = some (.lst vs) ∧ Pcs H vs ps
theorem PL.same {H H' : Hp} {l : Addr} {ps : List Pn} (h : PL H l ps) (s : Same H H') : PL H' l ps := by
  obtain ⟨vs, e, p⟩ := h
  exact ⟨vs, s _ _ e, p.same s⟩
theorem last_at {vs : List V} {v : V} (h : vs[vs.length - 1]? = some v) : atI vs (-1) = some v := by
  have := (List.getElem?_eq_some_iff.mp h).1
  unfold atI ixN
  rw [if_neg (by omega), if_pos (by omega)]
  show vs[((-1 : Int) + vs.length).toNat]? = _
  rw [show ((-1 : Int) + vs.length).toNat = vs.length - 1 by omega]
  exact h
theorem head_get {f : F} {m : Nat} (h : f.length = m + 1) : (f.map fun n : Nat => V.int (n : Nat))[0]? = some (.int ((f.headD 0 : Nat) : Int)) := by
  cases f with
  | nil => simp at h
  | cons a f => rfl
theorem nat_dec (a b : Nat) : decide (V.int (a : Nat) = V.int (b : Nat)) = decide (a = b) := by
  by_cases h : a = b
  · rw [h, decide_eq_true rfl, decide_eq_true rfl]
  · rw [decide_eq_false h, decide_eq_false (fun z => h (by have := V.int.inj z; omega))]
theorem not_empty {α : Type} {l : List α} {q : α} (h : l.getLast? = some q) : (!l.isEmpty) = true := by
  cases l with
  | nil => cases h
  | cons _ _ => rfl
section
variable {P : Program} {w : World} {K : PySem.W.Frag} {mg : Str → Option Value} {base : Heap} {C : Addr}
def sp_open : Sp := fun vs H Q _ => ∃ (a : Addr) (f : F), vs = [.ref a] ∧ FT H a f ∧ ∀ H', Same H H' → Q (.bl (isOpen f)) H'
theorem c_is_open_form (T : Txt K mg C) : C8.Cal P w K mg base 1 "is_open_form" sp_open [] := by
  refine calF T.d_is_open_form sc_is_open_form (fun vs H Q E h => ?_) (fun f cdv A outer s H vs Q E hr h => ?_)
  · obtain ⟨_, _, rfl, _⟩ := h; rfl
  · obtain ⟨a, f, rfl, ha, q⟩ := h
    refine ⟨_, (pss_one (ps_ret (pe_callB (cr_anyN rfl) (by rfl) T.m_any (by decide +kernel) (pa_cons (pe_slice sl_drop (pv 0) (po_some pe_int) po_none) pa_nil)))), ?_⟩
    refine ⟨_, rfl, 1, rfl, a, _, 1, rfl, rfl, rfl, ha, fun p1 H1 s1 h1 => ⟨p1, f.tail, rfl, ?_, q H1 s1⟩⟩
    rw [h1, ← List.map_drop]
    cases f <;> rfl
def sp_is_power : Sp := fun vs H Q _ => ∃ (a : Addr) (p : Pn) (m : Nat), vs = [.ref a] ∧ PC H a p ∧ p.2.length = m + 1 ∧ Q (.bl (isPow p)) H
theorem c_is_power (T : Txt K mg C) : C8.Cal P w K mg base 1 "is_power" sp_is_power [] := by
  refine calF T.d_is_power sc_is_power (fun vs H Q E h => ?_) (fun f cdv A outer s H vs Q E hr h => ?_)
  · obtain ⟨_, _, _, rfl, _⟩ := h; rfl
  · obtain ⟨a, p, m, rfl, ⟨fa, h1, h2⟩, hl, q⟩ := h
    refine ⟨_, (pss_one (ps_ret (pe_cmpR op_eq (pe_ix ix_tup (pe_ix ix_tup (pv 0) pe_int (fun _ _ => rfl)) pe_int (fun _ _ => rfl)) pe_int (nomark _)))), ?_⟩
    refine ⟨_, rfl, a, _, 1, _, rfl, rfl, .inl (.inl h1), atI_nat (j := 1) rfl, fa, _, 0, _, rfl, rfl, .inl (.inl h2), atI_nat (j := 0) (head_get hl), rfl, ?_⟩
    have := nat_dec (p.2.headD 0) 0
    rw [show V.int ((0 : Nat) : Int) = V.int 0 from rfl] at this
    rw [this]
    exact q
def sp_fixed : Sp := fun vs H Q _ => ∃ (z : List Nat) (m : Nat), vs = [.str (S z), .int m] ∧ m ≤ 3 ∧ ∀ p H', Same H H' → PC H' p (fixP z m) → Q (.ref p) H'
theorem c_fixed_piece (T : Txt K mg C) : C8.Cal P w K mg base 1 "fixed_piece" sp_fixed [] := by
  refine calF T.d_fixed_piece sc_fixed_piece (fun vs H Q E h => ?_) (fun f cdv A outer s H vs Q E hr h => ?_)
  · obtain ⟨_, _, rfl, _⟩ := h; rfl
  · obtain ⟨z, m, rfl, hm, q⟩ := h
    refine ⟨_, (pss_one (ps_ret (pe_tup (pa_cons (pv 0) (pa_cons (pe_op op_catS (pe_tup (pa_cons pe_int pa_nil)) (pe_op op_repOne (pe_tup (pa_cons pe_int pa_nil)) (pv 1))) pa_nil))))), ?_⟩
    refine ⟨_, rfl, by show 1 ≤ sizeLine; decide, fun t1 n1 => ⟨by decide, fun t2 n2 => ⟨_, rfl, t2, _, _, rfl, rfl, upd_same, by omega, by omega, fun p H' s hp => ?_⟩⟩⟩
    have e1 : H' t1 = some (.tup [.int 1]) := s _ _ (by rw [upd_ne (ne_of_none upd_same n2)]; exact upd_same)
    refine ⟨t1, p, _, _, rfl, rfl, e1, hp, by simp; omega, fun p2 H2 s2 h2 => ⟨by show 2 ≤ sizeLine; decide, fun t ht => ?_⟩⟩
    refine q t _ ((((sameNew n1).trans (sameNew n2)).trans (s.trans s2)).trans (sameNew ht)) ⟨p2, upd_same, ?_⟩
    refine sameNew ht _ _ ?_
    rw [h2]
    unfold fixP one1
    simp
theorem tru_word {K : PySem.W.Frag} {H : Hp} {z : List Nat} (h : z.length ≤ 1000000) : TruV K (.str (S z)) H (decide (z ≠ [])) := by
  refine ⟨len_line h, ?_⟩
  rw [S_len]
  by_cases e : z = []
  · subst e; rfl
  · have := List.length_pos_iff.mpr e
    rw [decide_eq_true e]
    symm
    rw [bne_iff_ne]
    omega
theorem SameX.updL {l : Addr} {H H1 : Hp} {o : HO} (s : SameX l H H1) : SameX l H (upd H1 l o) := fun b x hb e => by
  rw [upd_ne hb]
  exact s b x hb e
/-- behind the first test -/
theorem fixed_tail (T : Txt K mg C) (f : Addr) (cdv : Value) (A : Around) (outer : List Env) (s : Shared) (H0 : Hp) (E : XK) (hr : Room 1 (A.deeper (envOfC "put_fixed" (C8.fnScope (topS 36)) s.heap.objs.size f cdv))) :
    ∃ u, PSs (cxOf C8.CX0 P w K mg base ["ready", "word", "many"] "put_fixed" (C8.fnScope (topS 36)) f cdv A outer s H0 E).nox ((C8.fnBody (topS 36)).drop 1) u ∧
      ∀ (D : Ends) (H : Hp) (l : Addr) (us : List V) (X : List Pn) (z : List Nat) (m : Nat), H l = some (.lst us) → Pcs H us X → m ≤ 3 → X.length < 1000000 → z.length ≤ 200000 →
        (∀ σ H', SameX l H H' → PL H' l (if z = [] then X else X ++ [fixP z m]) → D.nx σ H') → u D [some (.ref l), some (.str (S z)), some (.int m)] H := by
  refine ⟨_, (pss_one (ps_if (pt_truth (pv 1) (by intro _; rfl))
    (pss_one (ps_expr (pe_bm PySem.F.plainAttrs_list PySem.F.slot_list_append PySem.F.type_list_append mt_append (pv 0) (pa_cons (C8.pe_c (c_fixed_piece T) hr (by decide) (by rfl) (pa_cons (pv 1) (pa_cons (pv 2) pa_nil))) pa_nil))))
    pss_nil)), ?_⟩
  intro D H l us X z m hl hX hm lX lz q
  refine ⟨_, rfl, _, tru_word (by omega), ite2 (fun e => ?_) (fun e => ?_)⟩
  · have e' := of_decide_eq_true e
    refine ⟨_, rfl, .inl ⟨rfl, _, .inl (.inl hl)⟩, _, rfl, _, rfl, z, m, rfl, hm, fun t H2 s2 pc => ?_⟩
    have h2 := s2 _ _ hl
    refine ⟨l, _, _, rfl, rfl, h2, by have := hX.len; rw [sizeLine_eq]; omega, q _ _ (SameX.updL (.of s2)) ?_⟩
    rw [if_neg e']
    exact ⟨_, upd_same, ((hX.same s2).upd h2).app (.one (pc.mono (tup_upd h2)))⟩
  · have e' : z = [] := Classical.byContradiction fun y => e (decide_eq_true y)
    exact q _ _ (.refl _ _) (by rw [if_pos e']; exact ⟨us, hl, hX⟩)
/-- the list at l grows, all else stays -/
def sp_put_fixed : Sp := fun vs H Q _ => ∃ (l : Addr) (acc : List Pn) (z : List Nat) (m : Nat), vs = [.ref l, .str (S z), .int m] ∧ PL H l acc ∧ LenF m acc ∧ m ≤ 3 ∧ acc.length < 1000000 ∧ z.length ≤ 100000 ∧ (∀ p ∈ acc, p.1.length ≤ 100000) ∧
  ∀ H', SameX l H H' → PL H' l (joinF acc z m) → Q .non H'
theorem c_put_fixed (T : Txt K mg C) : C8.Cal P w K mg base 2 "put_fixed" sp_put_fixed [] := by
  refine calF T.d_put_fixed sc_put_fixed (fun vs H Q E h => ?_) (fun f cdv A outer s H vs Q E hr h => ?_)
  · obtain ⟨_, _, _, _, rfl, _⟩ := h; rfl
  · obtain ⟨l, acc, z, m, rfl, ⟨vs, hl, hp⟩, lf, hm, hacc, hz, hw, q⟩ := h
    have lv := hp.len
    obtain ⟨u1, hu1, tail⟩ := fixed_tail (P := P) (w := w) (base := base) T f cdv A outer s H E hr
    refine ⟨_, (pss_cons (ps_if (PW.pt (pw_and (pt_truth (pv 0) (by intro _; rfl)) (pw_and1 (pt_not (pt_val (C8.pe_c (c_is_power T) hr (by decide) (by rfl) (pa_cons (pe_ix ix_list (pv 0) (pe_un un_neg pe_int) (fun _ _ => rfl)) pa_nil)))))))
    (pss_one (ps_set (i := 1) sc_put_fixed.nd rfl (Or.inl rfl) (pe_op op_add_str (pe_ix ix_tup (pe_bm0 PySem.F.plainAttrs_list PySem.F.slot_list_pop PySem.F.type_list_pop mt_pop (pv 0)) pe_int (fun _ _ => rfl)) (pv 1))))
    pss_nil)
    hu1), ?_⟩
    cases hlast : vs.getLast? with
    | none =>
      have ve : vs = [] := List.getLast?_eq_none_iff.mp hlast
      have ae : acc = [] := List.length_eq_zero_iff.mp (by rw [← lv, ve]; rfl)
      have ep : joinF acc z m = if z = [] then acc else acc ++ [fixP z m] := by rw [ae]; rfl
      rw [ep] at q
      refine ⟨_, rfl, false, .inl ⟨_, .inl (.inl hl), by rw [ve]; rfl⟩, iteF (iteF ?_)⟩
      exact tail _ H l vs acc z m hl hp hm hacc (by omega) fun _ H' s' p' => q H' s' p'
    | some v =>
      have hv : vs[vs.length - 1]? = some v := by rw [← List.getLast?_eq_getElem?]; exact hlast
      obtain ⟨b, p, rfl, hpi, pc⟩ := hp.get hv
      have ha : acc.getLast? = some p := by rw [List.getLast?_eq_getElem?, ← lv]; exact hpi
      have mem := List.mem_of_getLast? ha
      refine ⟨_, rfl, true, .inl ⟨_, .inl (.inl hl), (not_empty hlast).symm⟩, iteT ?_⟩
      refine ⟨_, rfl, 1, rfl, l, _, -1, _, rfl, rfl, .inl (.inl hl), last_at hv, b, p, m, rfl, pc, lf p mem, _, rfl, ?_⟩
      cases ep : isPow p with
      | true =>
        have e : joinF acc z m = if z = [] then acc else acc ++ [fixP z m] := by
          unfold joinF
          rw [ha]
          simp [ep]
        rw [e] at q
        refine iteF ?_
        exact tail _ H l vs acc z m hl hp hm hacc (by omega) fun _ H' s' p' => q H' s' p'
      | false =>
        have e : joinF acc z m = if p.1 ++ z = [] then acc.dropLast else acc.dropLast ++ [fixP (p.1 ++ z) m] := by
          unfold joinF
          rw [ha]
          simp [ep]
        rw [e] at q
        obtain ⟨fa, h1, h2⟩ := id pc
        have lp := hw p mem
        refine iteT ⟨_, rfl, .inl ⟨rfl, _, .inl (.inl hl)⟩, l, _, _, rfl, rfl, hl, hv, b, _, 0, _, rfl, rfl, .inl (.inl (tup_upd hl _ _ h1)), atI_nat (j := 0) rfl, _, rfl, _, _, rfl, rfl, ?_, ?_⟩
        · rw [S_len, S_len, sizeLine_eq]
          omega
        · rw [S_cat]
          exact tail _ _ l vs.dropLast acc.dropLast (p.1 ++ z) m upd_same (hp.init.upd hl) hm (by rw [List.length_dropLast]; omega) (by rw [List.length_append]; omega) fun _ H' s' p' => q H' ((SameX.updL (.refl _ _)).trans s') p'
end
end K13

set_option Elab.async false
set_option linter.all false
set_option maxRecDepth 100000
set_option maxHeartbeats 4000000
namespace K13
open PySem PySem.Spec PyProof.Rows L2 CK SX NM
def Ws (B : Nat) (ps : List Pn) : Prop := ∀ p ∈ ps, p.1.length ≤ B
theorem mem_joinF {acc : List Pn} {z : WM.W} {m : Nat} {p : Pn} (h : p ∈ joinF acc z m) : p ∈ acc ∨ p = fixP z m ∨ ∃ q ∈ acc, p = fixP (q.1 ++ z) m := by
  unfold joinF at h
  split at h
  · next q hq =>
    have mq := List.mem_of_getLast? hq
    split at h
    · split at h
      · exact .inl h
      · rcases List.mem_append.mp h with x | x
        · exact .inl x
        · exact .inr (.inl (List.mem_singleton.mp x))
    · split at h
      · exact .inl (mem_dropLast h)
      · rcases List.mem_append.mp h with x | x
        · exact .inl (mem_dropLast x)
        · exact .inr (.inr ⟨q, mq, List.mem_singleton.mp x⟩)
  · split at h
    · exact .inl h
    · rcases List.mem_append.mp h with x | x
      · exact .inl x
      · exact .inr (.inl (List.mem_singleton.mp x))
theorem len_one1 (m : Nat) : (one1 m).length = m + 1 := by simp [one1]
theorem lenF_joinF {acc : List Pn} {z : WM.W} {m : Nat} (h : LenF m acc) : LenF m (joinF acc z m) := fun p hp => by
  rcases mem_joinF hp with x | x | ⟨q, _, x⟩
  · exact h p x
  · rw [x]; exact len_one1 m
  · rw [x]; exact len_one1 m
theorem ws_joinF {acc : List Pn} {z : WM.W} {m B : Nat} (h : Ws B acc) (hz : z.length ≤ B) : Ws (2 * B) (joinF acc z m) := fun p hp => by
  rcases mem_joinF hp with x | x | ⟨q, hq, x⟩
  · have := h p x
    omega
  · rw [x]
    show z.length ≤ 2 * B
    omega
  · rw [x]
    show (q.1 ++ z).length ≤ 2 * B
    have := h q hq
    rw [List.length_append]
    omega
theorem len_joinF (acc : List Pn) (z : WM.W) (m : Nat) : (joinF acc z m).length ≤ acc.length + 1 := by
  unfold joinF
  split
  · split
    · split <;> simp
    · split <;> simp
      omega
  · split <;> simp
section
variable {P : Program} {w : World} {K : PySem.W.Frag} {mg : Str → Option Value} {base : Heap} {C : Addr}
theorem power_tail2 (T : Txt K mg C) (f0 : Addr) (cdv : Value) (A : Around) (outer : List Env) (s : Shared) (H0 : Hp) (E : XK) (hr : Room 2 (A.deeper (envOfC "put_power" (C8.fnScope (topS 37)) s.heap.objs.size f0 cdv))) :
    ∃ u, PSs (cxOf C8.CX0 P w K mg base ["ready", "word", "form", "many", "behind", "ahead", "moved"] "put_power" (C8.fnScope (topS 37)) f0 cdv A outer s H0 E).nox ((C8.fnBody (topS 37)).drop 4) u ∧
      ∀ (D : Ends) (H : Hp) (l fa : Addr) (us : List V) (X : List Pn) (z b : List Nat) (f : F) (m : Nat) (y5 y6 : Option V), H l = some (.lst us) → Pcs H us X → FT H fa f → f.length = m + 1 → LenF m X → m ≤ 3 → X.length < 900000 → b.length ≤ 100000 → z.length ≤ 100000 → Ws 100000 X →
        (∀ σ H', SameX l H H' → PL H' l (joinF (X ++ [(z, f)]) b m) → D.nx σ H') → u D [some (.ref l), some (.str (S z)), some (.ref fa), some (.int m), some (.str (S b)), y5, y6] H := by
  refine ⟨_, (pss_cons (ps_expr (pe_bm PySem.F.plainAttrs_list PySem.F.slot_list_append PySem.F.type_list_append mt_append (pv 0) (pa_cons (pe_tup (pa_cons (pv 1) (pa_cons (pv 2) pa_nil))) pa_nil)))
    (pss_one (ps_expr (C8.pe_c (c_put_fixed T) hr (by decide) (by rfl) (pa_cons (pv 0) (pa_cons (pv 4) (pa_cons (pv 3) pa_nil))))))), ?_⟩
  intro D H l fa us X z b f m y5 y6 hl hX hf lf lX hm hn lb lz ws q
  have lu := hX.len
  refine ⟨_, rfl, .inl ⟨rfl, _, .inl (.inl hl)⟩, _, rfl, _, rfl, by show 2 ≤ sizeLine; decide, fun t ht => ?_⟩
  have st := sameNew (o := .tup [.str (S z), .ref fa]) ht
  have h1 := st _ _ hl
  refine ⟨l, _, _, rfl, rfl, h1, by rw [sizeLine_eq]; omega, ?_⟩
  have PL1 : PL (upd (upd H t (.tup [.str (S z), .ref fa])) l (.lst (us ++ [.ref t]))) l (X ++ [(z, f)]) := by
    refine ⟨_, upd_same, ((hX.same st).upd h1).app (.one ⟨fa, tup_upd h1 _ _ upd_same, tup_upd h1 _ _ (st _ _ hf)⟩)⟩
  refine ⟨_, rfl, _, rfl, _, rfl, l, X ++ [(z, f)], b, m, rfl, PL1, fun p hp => ?_, hm, by simp; omega, by omega, fun p hp => ?_, fun H' s' p' => q _ H' ((SameX.updL (.of st)).trans s') p'⟩
  · rcases List.mem_append.mp hp with x | x
    · exact lX p x
    · rw [List.mem_singleton.mp x]
      exact lf
  · rcases List.mem_append.mp hp with x | x
    · exact ws p x
    · rw [List.mem_singleton.mp x]
      exact lz
theorem power_tail1 (T : Txt K mg C) (f0 : Addr) (cdv : Value) (A : Around) (outer : List Env) (s : Shared) (H0 : Hp) (E : XK) (hr : Room 2 (A.deeper (envOfC "put_power" (C8.fnScope (topS 37)) s.heap.objs.size f0 cdv))) :
    ∃ u, PSs (cxOf C8.CX0 P w K mg base ["ready", "word", "form", "many", "behind", "ahead", "moved"] "put_power" (C8.fnScope (topS 37)) f0 cdv A outer s H0 E).nox ((C8.fnBody (topS 37)).drop 3) u ∧
      ∀ (D : Ends) (σ : L2.St) (H : Hp) (l fa : Addr) (us : List V) (X : List Pn) (z b : List Nat) (f : F) (m : Nat) (y5 y6 : Option V), σ = [some (.ref l), some (.str (S z)), some (.ref fa), some (.int m), some (.str (S b)), y5, y6] → H l = some (.lst us) → Pcs H us X → FT H fa f → f.length = m + 1 → LenF m X → m ≤ 3 → X.length < 900000 → b.length ≤ 100000 → z.length ≤ 100000 → Ws 100000 X →
        (∀ σ H', SameX l H H' → PL H' l (joinF (pushP X z f) b m) → D.nx σ H') → u D σ H := by
  obtain ⟨u2, hu2, tail⟩ := power_tail2 (P := P) (w := w) (base := base) T f0 cdv A outer s H0 E hr
  refine ⟨_, (pss_cons (ps_if (PW.pt (pw_and (pt_truth (pv 0) (by intro _; rfl)) (pw_and (pt_val (C8.pe_c (c_is_power T) hr (by decide) (by rfl) (pa_cons (pe_ix ix_list (pv 0) (pe_un un_neg pe_int) (fun _ _ => rfl)) pa_nil))) (pw_and1 (pt_cmpR op_eq (pe_ix ix_tup (pe_ix ix_list (pv 0) (pe_un un_neg pe_int) (fun _ _ => rfl)) pe_int (fun _ _ => rfl)) (pv 1) (nomark _))))))
    (pss_one (ps_set (i := 2) sc_put_power.nd rfl (Or.inl rfl) (C8.pe_c (c_form_sum T) hr (by decide) (by rfl) (pa_cons (pe_ix ix_tup (pe_bm0 PySem.F.plainAttrs_list PySem.F.slot_list_pop PySem.F.type_list_pop mt_pop (pv 0)) pe_int (fun _ _ => rfl)) (pa_cons (pv 2) pa_nil)))))
    pss_nil)
    hu2), ?_⟩
  intro D σ H l fa us X z b f m y5 y6 eσ hl hX hf lf lX hm hn lb lz ws q
  subst eσ
  have lu := hX.len
  cases hlast : us.getLast? with
  | none =>
    have ve : us = [] := List.getLast?_eq_none_iff.mp hlast
    have ae : X = [] := List.length_eq_zero_iff.mp (by rw [← lu, ve]; rfl)
    have ep : pushP X z f = X ++ [(z, f)] := by rw [ae]; rfl
    rw [ep] at q
    refine ⟨_, rfl, false, .inl ⟨_, .inl (.inl hl), by rw [ve]; rfl⟩, iteF (iteF ?_)⟩
    exact tail _ H l fa us X z b f m y5 y6 hl hX hf lf lX hm hn lb lz ws q
  | some v =>
    have hv : us[us.length - 1]? = some v := by rw [← List.getLast?_eq_getElem?]; exact hlast
    obtain ⟨c, p, rfl, hpi, pc⟩ := hX.get hv
    have ha : X.getLast? = some p := by rw [List.getLast?_eq_getElem?, ← lu]; exact hpi
    have mem := List.mem_of_getLast? ha
    have other : ¬ (isPow p = true ∧ p.1 = z) → u2 D [some (.ref l), some (.str (S z)), some (.ref fa), some (.int m), some (.str (S b)), y5, y6] H := fun no => by
      have ep : pushP X z f = X ++ [(z, f)] := by
        unfold pushP
        rw [ha]
        simp [no]
      rw [ep] at q
      exact tail _ H l fa us X z b f m y5 y6 hl hX hf lf lX hm hn lb lz ws q
    refine ⟨_, rfl, true, .inl ⟨_, .inl (.inl hl), (not_empty hlast).symm⟩, iteT ?_⟩
    refine ⟨_, rfl, 1, rfl, l, _, -1, _, rfl, rfl, .inl (.inl hl), last_at hv, c, p, m, rfl, pc, lX p mem, _, rfl, ?_⟩
    cases ep : isPow p with
    | false => exact iteF (iteF (other fun z => by rw [ep] at z; cases z.1))
    | true =>
      obtain ⟨fp, h1, h2⟩ := id pc
      refine iteT ⟨_, rfl, 1, rfl, l, _, -1, _, rfl, rfl, .inl (.inl hl), last_at hv, c, _, 0, _, rfl, rfl, .inl (.inl h1), atI_nat (j := 0) rfl, _, rfl, rfl, _, rfl, ite2 (fun e => ?_) (fun e => ?_)⟩
      · have e1 : p.1 = z := S_inj (V.str.inj (of_decide_eq_true e))
        have es : pushP X z f = X.dropLast ++ [(z, addF p.2 f)] := by
          unfold pushP
          rw [ha]
          simp [ep, e1]
        rw [es] at q
        have lp := lX p mem
        have h2' : FT (upd H l (.lst us.dropLast)) fp p.2 := tup_upd hl _ _ h2
        refine ⟨_, rfl, .inl ⟨rfl, _, .inl (.inl hl)⟩, l, _, _, rfl, rfl, hl, hv, c, _, 1, _, rfl, rfl, .inl (.inl (tup_upd hl _ _ h1)), atI_nat (j := 1) rfl, _, rfl, fp, fa, p.2, f, rfl, h2', tup_upd hl _ _ hf, by omega, by omega, fun fs H2 s2 h3 => ?_⟩
        have hl2 : H2 l = some (.lst us.dropLast) := s2 _ _ upd_same
        refine tail _ H2 l fs us.dropLast X.dropLast z b (addF p.2 f) m y5 y6 hl2 ((hX.init.upd hl).same s2) h3 (by rw [len_add (by omega)]; exact lf) (fun r hr' => lX r (mem_dropLast hr')) hm (by rw [List.length_dropLast]; omega) lb lz (fun r hr' => ws r (mem_dropLast hr')) fun σ H' s' p' => q σ H' (((SameX.updL (.refl _ _)).trans (.of s2)).trans s') p'
      · exact other fun y => e (decide_eq_true (by rw [y.2]))
def sp_put_power : Sp := fun vs H Q _ => ∃ (l fa : Addr) (acc : List Pn) (z : List Nat) (f : F) (m : Nat), vs = [.ref l, .str (S z), .ref fa] ∧ PL H l acc ∧ FT H fa f ∧ f.length = m + 1 ∧ LenF m acc ∧ m ≤ 3 ∧ acc.length < 100000 ∧ z ≠ [] ∧ z.length ≤ 10000 ∧ Ws 10000 acc ∧
  ∀ H', SameX l H H' → PL H' l (putP acc z f) → Q .non H'
theorem c_put_power (T : Txt K mg C) : C8.Cal P w K mg base 3 "put_power" sp_put_power [] := by
  refine calF T.d_put_power sc_put_power (fun vs H Q E h => ?_) (fun f0 cdv A outer s H vs Q E hr h => ?_)
  · obtain ⟨_, _, _, _, _, _, rfl, _⟩ := h; rfl
  · obtain ⟨l, fa, acc, z, f, m, rfl, ⟨vs, hl, hp⟩, hf, lf, lA, hm, hacc, zne, hz, ws, q⟩ := h
    have lv := hp.len
    have em : f.length - 1 = m := by omega
    obtain ⟨u1, hu1, tail⟩ := power_tail1 (P := P) (w := w) (base := base) T f0 cdv A outer s H E hr
    refine ⟨_, (pss_cons (ps_set (i := 3) sc_put_power.nd rfl (Or.inl rfl) (pe_op op_sub (pe_callB call_len_seq (by rfl) T.m_len (by decide +kernel) (pa_cons (pv 2) pa_nil)) pe_int))
    (pss_cons (ps_set (i := 4) sc_put_power.nd rfl (Or.inl rfl) pe_str)
    (pss_cons (ps_if (PW.pt (pw_and (pt_truth (pv 0) (by intro _; rfl)) (pw_and1 (pt_not (pt_val (C8.pe_c (c_is_power T) hr (by decide) (by rfl) (pa_cons (pe_ix ix_list (pv 0) (pe_un un_neg pe_int) (fun _ _ => rfl)) pa_nil)))))))
    (pss_cons (ps_set (i := 5) sc_put_power.nd rfl (Or.inl rfl) (pe_ix ix_tup (pe_bm0 PySem.F.plainAttrs_list PySem.F.slot_list_pop PySem.F.type_list_pop mt_pop (pv 0)) pe_int (fun _ _ => rfl)))
    (pss_cons (ps_set (i := 6) sc_put_power.nd rfl (Or.inl rfl) (C8.pe_c (c_alike_behind T) hr (by decide) (by rfl) (pa_cons (pv 5) (pa_cons (C8.pe_c (c_stretch T) hr (by decide) (by rfl) (pa_cons (pv 1) (pa_cons (pe_un un_neg (pe_callB call_len_str (by rfl) T.m_len (by decide +kernel) (pa_cons (pv 5) pa_nil))) (pa_cons (pe_callB call_len_str (by rfl) T.m_len (by decide +kernel) (pa_cons (pv 5) pa_nil)) pa_nil)))) pa_nil))))
    (pss_cons (ps_set (i := 4) sc_put_power.nd rfl (Or.inl rfl) (pe_slice C8.sl_txt (pv 5) (po_some (pe_op op_sub (pe_callB call_len_str (by rfl) T.m_len (by decide +kernel) (pa_cons (pv 5) pa_nil)) (pv 6))) po_none))
    (pss_cons (ps_set (i := 1) sc_put_power.nd rfl (Or.inl rfl) (C8.pe_c (c_turned_word T) hr (by decide) (by rfl) (pa_cons (pv 1) (pa_cons (pe_un un_neg (pv 6)) pa_nil))))
    (pss_one (ps_expr (C8.pe_c (c_put_fixed T) hr (by decide) (by rfl) (pa_cons (pv 0) (pa_cons (pe_slice C8.sl_txt (pv 5) po_none (po_some (pe_op op_sub (pe_callB call_len_str (by rfl) T.m_len (by decide +kernel) (pa_cons (pv 5) pa_nil)) (pv 6)))) (pa_cons (pv 3) pa_nil))))))))))
    pss_nil)
    hu1))), ?_⟩
    refine ⟨_, rfl, fa, _, rfl, .inr (.inl (.inl hf)), _, _, rfl, rfl, ?_⟩
    have lm : (((f.map fun n : Nat => V.int (n : Nat)).length : Nat) : Int) - 1 = (m : Int) := by rw [List.length_map, lf]; omega
    have eS : (V.str "") = V.str (S []) := by decide +kernel
    have eσ : [some (V.ref l), some (V.str (S z)), some (V.ref fa), some (V.int ((((f.map fun n : Nat => V.int (n : Nat)).length : Nat) : Int) - 1)), some (V.str ""), none, none] = [some (V.ref l), some (V.str (S z)), some (V.ref fa), some (V.int (m : Nat)), some (V.str (S [])), none, none] := by rw [lm, eS]
    have simple : (∀ q, acc.getLast? = some q → isPow q = true) → u1 { nx := fun _ H' => Q .non H', rt := Q } [some (V.ref l), some (V.str (S z)), some (V.ref fa), some (V.int ((((f.map fun n : Nat => V.int (n : Nat)).length : Nat) : Int) - 1)), some (V.str ""), none, none] H := fun hp' => by
      have e : putP acc z f = joinF (pushP acc z f) [] m := by
        unfold putP
        rw [em]
        split
        · next q hq => rw [if_pos (hp' q hq)]
        · rfl
      rw [e] at q
      exact tail _ _ H l fa vs acc z [] f m none none eσ hl hp hf lf lA hm (by omega) (by simp) (by omega) (fun p hp => by have := ws p hp; omega) fun _ H' s' p' => q H' s' p'
    cases hlast : vs.getLast? with
    | none =>
      have ve : vs = [] := List.getLast?_eq_none_iff.mp hlast
      have ae : acc = [] := List.length_eq_zero_iff.mp (by rw [← lv, ve]; rfl)
      refine ⟨_, rfl, false, .inl ⟨_, .inl (.inl hl), by rw [ve]; rfl⟩, iteF (iteF ?_)⟩
      exact simple fun q hq => by rw [ae] at hq; cases hq
    | some v =>
      have hv : vs[vs.length - 1]? = some v := by rw [← List.getLast?_eq_getElem?]; exact hlast
      obtain ⟨b, p, rfl, hpi, pc⟩ := hp.get hv
      have ha : acc.getLast? = some p := by rw [List.getLast?_eq_getElem?, ← lv]; exact hpi
      have mem := List.mem_of_getLast? ha
      refine ⟨_, rfl, true, .inl ⟨_, .inl (.inl hl), (not_empty hlast).symm⟩, iteT ?_⟩
      refine ⟨_, rfl, 1, rfl, l, _, -1, _, rfl, rfl, .inl (.inl hl), last_at hv, b, p, m, rfl, pc, lA p mem, _, rfl, ?_⟩
      cases ep : isPow p with
      | true => exact iteF (simple fun q hq => by rw [ha] at hq; cases hq; exact ep)
      | false =>
        have e : putP acc z f = joinF (pushP (joinF acc.dropLast (p.1.take (p.1.length - movedE p.1 z)) m) (rotR z (movedE p.1 z)) f) (p.1.drop (p.1.length - movedE p.1 z)) m := by
          unfold putP
          rw [ha, em]
          simp [ep]
        rw [e] at q
        obtain ⟨fp, h1, h2⟩ := id pc
        have lp := ws p mem
        have mle := movedE_le p.1 z
        have hl1 : (upd H l (.lst vs.dropLast)) l = some (.lst vs.dropLast) := upd_same
        have hp1 := hp.init.upd (ys := vs.dropLast) hl
        have hf1 : FT (upd H l (.lst vs.dropLast)) fa f := tup_upd hl _ _ hf
        refine iteT ⟨_, rfl, .inl ⟨rfl, _, .inl (.inl hl)⟩, l, _, _, rfl, rfl, hl, hv, b, _, 0, _, rfl, rfl, .inl (.inl (tup_upd hl _ _ h1)), atI_nat (j := 0) rfl, ?_⟩
        generalize hmv : movedE p.1 z = mv at mle q
        have emv : WM.lcp p.1.reverse (tailE z p.1.length).reverse = mv := hmv
        refine ⟨_, rfl, _, rfl, _, rfl, S p.1, rfl, len_line (by omega), _, rfl, _, rfl, S p.1, rfl, len_line (by omega), z, p.1.length, by rw [S_len]; rfl, zne, by omega, by omega, p.1, tailE z p.1.length, rfl, by omega, by rw [tailE_len zne]; omega, ?_⟩
        rw [emv]
        refine ⟨_, rfl, _, rfl, S p.1, rfl, len_line (by omega), _, rfl, _, _, rfl, rfl, ((p.1.length - mv : Nat) : Int), congrArg V.int (by rw [S_len]; omega), S p.1, rfl, len_line (by omega), ?_⟩
        rw [SX.slice_from (by omega), Int.toNat_natCast]
        refine ⟨_, rfl, _, rfl, _, rfl, z, -(mv : Int), rfl, by omega, zne, ?_⟩
        rw [rotZ_neg zne]
        refine ⟨_, rfl, _, rfl, _, rfl, S p.1, rfl, len_line (by omega), _, rfl, _, _, rfl, rfl, ((p.1.length - mv : Nat) : Int), congrArg V.int (by rw [S_len]; omega), S p.1, rfl, len_line (by omega), ?_⟩
        rw [SX.slice_to (by omega), Int.toNat_natCast]
        refine ⟨_, rfl, l, acc.dropLast, p.1.take (p.1.length - mv), m, by
          show [V.ref l, V.str _, V.int ((((f.map fun n : Nat => V.int (n : Nat)).length : Nat) : Int) - 1)] = _
          rw [lm], ⟨_, hl1, hp1⟩, fun r hr' => lA r (mem_dropLast hr'), hm, by rw [List.length_dropLast]; omega, by rw [List.length_take]; omega, fun r hr' => by have := ws r (mem_dropLast hr'); omega, fun H2 s2 p2 => ?_⟩
        obtain ⟨us, hus, pus⟩ := p2
        have wsJ : Ws 20000 (joinF acc.dropLast (p.1.take (p.1.length - mv)) m) := ws_joinF (B := 10000) (fun r hr' => ws r (mem_dropLast hr')) (by rw [List.length_take]; omega)
        have lJ := len_joinF acc.dropLast (p.1.take (p.1.length - mv)) m
        rw [List.length_dropLast] at lJ
        refine tail _ _ H2 l fa us _ (rotR z mv) (p.1.drop (p.1.length - mv)) f m (some (.str (S p.1))) (some (.int (mv : Nat))) (by
          show [some (V.ref l), some (V.str (S (rotR z mv))), some (V.ref fa), some (V.int ((((f.map fun n : Nat => V.int (n : Nat)).length : Nat) : Int) - 1)), some (V.str (S (p.1.drop (p.1.length - mv)))), some (V.str (S p.1)), some (V.int (mv : Nat))] = _
          rw [lm]) hus pus (tup_sameX hl1 s2 _ _ hf1) lf (lenF_joinF fun r hr' => lA r (mem_dropLast hr')) hm (by omega) (by rw [List.length_drop]; omega) (by rw [rotR_len]; omega) (fun r hr' => by have := wsJ r hr'; omega) fun σ H' s' p' => q H' (((SameX.updL (.refl _ _)).trans s2).trans s') p'
end
end K13

set_option Elab.async false
set_option linter.all false
set_option maxRecDepth 100000
set_option maxHeartbeats 4000000
namespace K13
open PySem PySem.Spec PyProof.Rows L2 CK SX NM
/-- what holds between two statements -/
theorem cut_seq {t u : TS} {D : Ends} {σ : L2.St} {H : Hp} (Mid : L2.St → Hp → Prop) (h1 : ∀ K : L2.St → Hp → Prop, (∀ σ' H', Mid σ' H' → K σ' H') → t { D with nx := K } σ H) (h2 : ∀ σ' H', Mid σ' H' → u D σ' H') : tSeq t u D σ H := h1 _ h2
theorem meas_cons (p : Pn) (r : List Pn) : meas (p :: r) = measP p + meas r := by simp [meas]
theorem le_meas : ∀ {l : List Pn} {p : Pn}, p ∈ l → measP p ≤ meas l
  | [], _, h => absurd h List.not_mem_nil
  | q :: r, p, h => by
    rw [meas_cons]
    rcases List.mem_cons.mp h with x | x
    · rw [x]; omega
    · have := le_meas x
      omega
theorem len_meas : ∀ {l : List Pn}, (∀ p ∈ l, 1 ≤ measP p) → l.length ≤ meas l
  | [], _ => Nat.zero_le _
  | p :: r, h => by
    have a := len_meas fun q hq => h q (List.mem_cons_of_mem _ hq)
    have b := h p List.mem_cons_self
    rw [meas_cons, List.length_cons]
    omega
theorem _root_.NM.Nm.small {m B : Nat} {l : List Pn} (h : Nm m l) (hb : meas l ≤ B) : l.length ≤ B ∧ Ws B l := by
  refine ⟨Nat.le_trans (len_meas fun p hp => ?_) hb, fun p hp => Nat.le_trans (measP_le (h.all p hp)) (Nat.le_trans (le_meas hp) hb)⟩
  exact Nat.le_trans (List.length_pos_iff.mpr (h.all p hp).ne) (measP_le (h.all p hp))
theorem nm_stepA' {m : Nat} {acc : List Pn} {p : Pn} (h : Nm m acc) (hl : p.2.length = m + 1) : Nm m (stepA acc p) ∧ meas (stepA acc p) ≤ meas acc + p.1.length := by
  refine ⟨nm_stepA h hl, ?_⟩
  unfold stepA
  split
  · next z =>
    have lt : (timesF (p.1.length / WM.rootN p.1) (0 :: p.2.tail)).length = m + 1 := by unfold timesF; simp [hl]
    have := meas_putP h (u := p.1.take (WM.rootN p.1)) lt (by simp [timesF])
    rw [List.length_take] at this
    omega
  · omega
theorem meas_take_step {ps : List Pn} {m i : Nat} {p : Pn} (h : LenF m ps) (hp : ps[i]? = some p) : meas ((ps.take i).foldl stepN []) + measP p ≤ meas ps := by
  have a := meas_fold (ps.take i) [] (Nm.nil (m := m)) fun q hq => h q (List.mem_of_mem_take hq)
  have e : meas ([] : List Pn) = 0 := rfl
  have hi := (List.getElem?_eq_some_iff.mp hp).1
  have s : ps = ps.take i ++ (p :: ps.drop (i + 1)) := by
    conv => lhs; rw [← List.take_append_drop i ps]
    rw [← List.getElem_cons_drop hi, (List.getElem?_eq_some_iff.mp hp).2]
  have b : meas ps = meas (ps.take i) + (measP p + meas (ps.drop (i + 1))) := by
    conv => lhs; rw [s]
    rw [meas_app, meas_cons]
  omega
section
variable {P : Program} {w : World} {K : PySem.W.Frag} {mg : Str → Option Value} {base : Heap} {C : Addr}
def sp_normal_pieces : Sp := fun vs H Q _ => ∃ (l : Addr) (ps : List Pn) (m : Nat), vs = [.ref l] ∧ PL H l ps ∧ LenF m ps ∧ m ≤ 3 ∧ meas ps ≤ 5000 ∧ Ws 5000 ps ∧ (∀ p ∈ ps, Bf p.2) ∧ ps.length ≤ 100000 ∧
  ∀ r H', Same H H' → H r = none → PL H' r (normL ps) → Q (.ref r) H'
theorem c_normal_pieces (T : Txt K mg C) : C8.Cal P w K mg base 4 "normal_pieces" sp_normal_pieces [] := by
  refine calF T.d_normal_pieces sc_normal_pieces (fun vs H Q E h => ?_) (fun f0 cdv A outer s H vs Q E hr h => ?_)
  · obtain ⟨_, _, _, rfl, _⟩ := h; rfl
  · obtain ⟨l, ps, m, rfl, ⟨vs, hl, hp⟩, lF, hm, hmeas, hws, hbf, hlen, q⟩ := h
    have lv := hp.len
    refine ⟨_, (pss_cons (ps_set (i := 1) sc_normal_pieces.nd rfl (Or.inl rfl) (pe_lst pa_nil))
    (pss_cons (ps_for PassesOwn.never rfl (pi_list (pv 0)) (pg_two (K := K) (i := 2) (j := 3) rfl rfl sc_normal_pieces.nd rfl rfl (Or.inl rfl) (Or.inl rfl))
    (pss_cons (ps_if (PW.pt (pw_and (pt_truth (pv 2) (by intro _; rfl)) (pw_and1 (pt_val (C8.pe_c (c_is_open_form T) hr (by decide) (by rfl) (pa_cons (pv 3) pa_nil))))))
    (pss_cons (ps_set (i := 4) sc_normal_pieces.nd rfl (Or.inl rfl) (C8.pe_c (c_root_size T) hr (by decide) (by rfl) (pa_cons (pv 2) pa_nil)))
    (pss_one (ps_expr (C8.pe_c (c_put_power T) hr (by decide) (by rfl) (pa_cons (pv 1) (pa_cons (pe_slice C8.sl_txt (pv 2) po_none (po_some (pv 4))) (pa_cons (C8.pe_c (c_form_times T) hr (by decide) (by rfl) (pa_cons (pe_op op_fdivZ (pe_callB call_len_str (by rfl) T.m_len (by decide +kernel) (pa_cons (pv 2) pa_nil)) (pv 4)) (pa_cons (pe_op op_catS (pe_tup (pa_cons pe_int pa_nil)) (pe_slice sl_drop (pv 3) (po_some pe_int) po_none)) pa_nil))) pa_nil)))))))
    pss_nil)
    (pss_one (ps_if (PW.pt (pw_and (pt_truth (pv 2) (by intro _; rfl)) (pw_and1 (pt_truth (pe_ix ix_tup (pv 3) pe_int (fun _ _ => rfl)) (by intro _; rfl)))))
    (pss_one (ps_expr (C8.pe_c (c_put_fixed T) hr (by decide) (by rfl) (pa_cons (pv 1) (pa_cons (pe_op op_repM (pv 2) (pe_ix ix_tup (pv 3) pe_int (fun _ _ => rfl))) (pa_cons (pe_op op_sub (pe_callB call_len_seq (by rfl) T.m_len (by decide +kernel) (pa_cons (pv 3) pa_nil)) pe_int) pa_nil))))))
    pss_nil))))
    (pss_one (ps_ret (pv 1))))), ?_⟩
    refine ⟨by show 0 ≤ sizeLine; omega, fun r hr0 => ?_⟩
    have rl : r ≠ l := fun z => by rw [z, hl] at hr0; cases hr0
    have s0 := sameNew (o := .lst []) hr0
    refine ⟨_, rfl, l, rfl, ⟨_, .inl (.inl (s0 _ _ hl))⟩, for_list (K := K) (a := l) (xs := vs) (fun i σ H' => Same H H' ∧ (∃ y2 y3 y4, σ = [some (.ref l), some (.ref r), y2, y3, y4]) ∧ PL H' r ((ps.take i).foldl stepN []))
      ⟨s0, ⟨none, none, none, rfl⟩, [], upd_same, .nil⟩ (fun i σ H' _ p => .inl (.inl (p.1 _ _ hl))) (fun i y σ H' hi pI => ?_) (fun σ H' pI => ?_)⟩
    · obtain ⟨s1, ⟨y2, y3, y4, rfl⟩, pl⟩ := pI
      obtain ⟨a, p, rfl, hpi, pc⟩ := hp.get hi
      have mem := List.mem_of_getElem? hpi
      have lp := lF p mem
      have wp := hws p mem
      have bp := hbf p mem
      have step := meas_take_step lF hpi
      have nm : Nm m ((ps.take i).foldl stepN []) := nm_fold _ [] .nil fun q hq => lF q (List.mem_of_mem_take hq)
      have et : (ps.take (i + 1)).foldl stepN [] = stepN ((ps.take i).foldl stepN []) p := by rw [List.take_succ, hpi, List.foldl_append]; rfl
      rw [et]
      generalize (ps.take i).foldl stepN [] = acc at pl nm step
      obtain ⟨nmA, mA⟩ := nm_stepA' nm lp
      have sm := nm.small (B := 5000) (by omega)
      have smA := nmA.small (B := 10000) (by omega)
      obtain ⟨fa, h1, h2⟩ := pc.mono (tup_same s1)
      refine ⟨a, _, rfl, .inl (.inl h1), rfl, _, _, rfl, _, _, rfl, rfl, ?_⟩
      refine cut_seq (fun σ' H2 => SameX r H' H2 ∧ (∃ y4, σ' = [some (.ref l), some (.ref r), some (.str (S p.1)), some (.ref fa), y4]) ∧ PL H2 r (stepA acc p)) (fun K hK => ?_) fun σ' H2 pM => ?_
      · refine ⟨_, rfl, _, tru_word (by omega), ?_⟩
        by_cases ne : p.1 = []
        · rw [decide_eq_false (fun z => z ne)]
          refine iteF (iteF (hK _ _ ⟨.refl _ _, ⟨_, rfl⟩, ?_⟩))
          have e : stepA acc p = acc := by unfold stepA; rw [if_neg fun z => z.1 ne]
          rw [e]
          exact pl
        · rw [decide_eq_true ne]
          refine iteT ⟨_, rfl, fa, p.2, rfl, h2, fun H1 s2 => ⟨_, rfl, ?_⟩⟩
          cases op : isOpen p.2 with
          | false =>
            refine iteF (hK _ _ ⟨.of s2, ⟨_, rfl⟩, ?_⟩)
            have e : stepA acc p = acc := by unfold stepA; rw [if_neg fun z => by rw [op] at z; exact Bool.false_ne_true z.2]
            rw [e]
            exact pl.same s2
          | true =>
            have n0 := List.length_pos_iff.mpr ne
            have r0 := WM.rootN_pos ne
            have rl' := WM.rootN_le ne
            refine iteT ⟨_, rfl, p.1, rfl, ne, by omega, fun H3 s3 => ?_⟩
            have e : stepA acc p = putP acc (p.1.take (WM.rootN p.1)) (timesF (p.1.length / WM.rootN p.1) (0 :: p.2.tail)) := by unfold stepA; rw [if_pos ⟨ne, op⟩]
            refine ⟨_, rfl, _, rfl, _, rfl, _, rfl, S p.1, rfl, len_line (by omega), _, rfl, S p.1, rfl, len_line (by omega), _, rfl, p.1.length, WM.rootN p.1, congrArg (fun n : Nat => V.int n) (S_len p.1), rfl, by omega, by omega, by show 1 ≤ sizeLine; decide, fun t1 n1 => ?_⟩
            have st1 := sameNew (o := .tup [V.int 0]) n1
            have h23 := st1 _ _ ((s2.trans s3) _ _ h2)
            refine ⟨_, rfl, 1, rfl, fa, _, 1, rfl, rfl, rfl, h23, fun p4 H4 s4 h4 => ?_⟩
            have l4 : ((p.2.map fun n : Nat => V.int (n : Nat)).drop 1).length ≤ 4 := by rw [List.length_drop, List.length_map]; omega
            refine ⟨t1, p4, _, _, rfl, rfl, s4 _ _ upd_same, h4, Nat.le_trans (Nat.add_le_add_left l4 1) (by decide), fun p5 H5 s5 h5 => ?_⟩
            have hF5 : FT H5 p5 (0 :: p.2.tail) := by
              unfold FT
              obtain ⟨x, f, ef⟩ : ∃ x f, p.2 = x :: f := by
                cases e : p.2 with
                | nil => rw [e] at lp; simp at lp
                | cons x f => exact ⟨x, f, rfl⟩
              rw [h5, ef]
              rfl
            have sk : p.1.length / WM.rootN p.1 ≤ p.1.length := Nat.div_le_self _ _
            refine ⟨p.1.length / WM.rootN p.1, p5, 0 :: p.2.tail, rfl, hF5, by simp [lp]; omega, by omega, fun n hn => ?_, fun p6 H6 s6 h6 => ?_⟩
            · rcases List.mem_cons.mp hn with x | x
              · omega
              · exact bp n (List.mem_of_mem_tail x)
            · have sAll : Same H' H6 := ((((s2.trans s3).trans st1).trans s4).trans s5).trans s6
              refine ⟨r, p6, acc, p.1.take (WM.rootN p.1), timesF (p.1.length / WM.rootN p.1) (0 :: p.2.tail), m, ?_, pl.same sAll, h6, by unfold timesF; simp [lp], nm.lenF, hm, by omega, fun z => ?_, by rw [List.length_take]; omega, fun x hx => by have := sm.2 x hx; omega, fun H7 s7 p7 => hK _ _ ⟨(SameX.of sAll).trans s7, ⟨_, rfl⟩, by rw [e]; exact p7⟩⟩
              · rw [SX.slice_to (by omega), Int.toNat_natCast]
                rfl
              · have := congrArg List.length z
                rw [List.length_take, List.length_nil] at this
                omega
      · obtain ⟨sX, ⟨y4, rfl⟩, plA⟩ := pM
        have rne : ∀ {b : Addr} {xs : List V}, H' b = some (.tup xs) → H2 b = some (.tup xs) := fun {b xs} e => by
          obtain ⟨us, hus, _⟩ := pl
          exact sX _ _ (fun z => by rw [z, hus] at e; cases e) e
        have h2' : FT H2 fa p.2 := rne h2
        have sH : ∀ {H3 : Hp}, SameX r H' H3 → Same H H3 := fun {H3} sx b o eb => sx _ _ (fun z => by rw [z, hr0] at eb; cases eb) (s1 _ _ eb)
        refine ⟨_, rfl, _, tru_word (by omega), ?_⟩
        have skip : ¬ (p.1 ≠ [] ∧ p.2.headD 0 ≠ 0) → PL H2 r (stepN acc p) := fun no => by
          have e : stepN acc p = stepA acc p := by
            unfold stepN stepB
            rw [if_neg no]
          rw [e]
          exact plA
        by_cases ne : p.1 = []
        · rw [decide_eq_false (fun z => z ne)]
          exact iteF (iteF ⟨sH sX, ⟨_, _, _, rfl⟩, skip fun z => z.1 ne⟩)
        · rw [decide_eq_true ne]
          refine iteT ⟨_, rfl, fa, _, 0, _, rfl, rfl, .inl (.inl h2'), atI_nat (j := 0) (head_get lp), _, rfl, ?_⟩
          by_cases h0 : p.2.headD 0 = 0
          · rw [h0]
            exact iteF ⟨sH sX, ⟨_, _, _, rfl⟩, skip fun z => z.2 h0⟩
          · rw [show ((((p.2.headD 0 : Nat) : Int)) != 0) = true by rw [bne_iff_ne]; omega]
            have mP : p.1.length * p.2.headD 0 ≤ measP p := by unfold measP; exact Nat.mul_le_mul_left _ (by omega)
            have n0 := List.length_pos_iff.mpr ne
            have hh : p.2.headD 0 ≤ p.1.length * p.2.headD 0 := Nat.le_mul_of_pos_left _ n0
            have lw : (WM.pw p.1 (p.2.headD 0)).length ≤ 5000 := by rw [WM.pw_len]; omega
            have lm : (((p.2.map fun n : Nat => V.int (n : Nat)).length : Nat) : Int) - 1 = (m : Int) := by rw [List.length_map, lp]; omega
            refine iteT ⟨_, rfl, _, rfl, _, rfl, fa, _, 0, _, rfl, rfl, .inl (.inl h2'), atI_nat (j := 0) (head_get lp), p.1, p.2.headD 0, rfl, rfl, by omega, by omega, by rw [Nat.mul_comm]; omega, ?_⟩
            refine ⟨_, rfl, fa, _, rfl, .inr (.inl (.inl h2')), _, _, rfl, rfl, r, stepA acc p, WM.pw p.1 (p.2.headD 0), m, ?_, plA, nmA.lenF, hm, by omega, by omega, fun x hx => by have := smA.2 x hx; omega, fun H3 s3 p3 => ⟨sH (sX.trans s3), ⟨_, _, _, rfl⟩, ?_⟩⟩
            · show [V.ref r, V.str (S (WM.pw p.1 (p.2.headD 0))), V.int ((((p.2.map fun n : Nat => V.int (n : Nat)).length : Nat) : Int) - 1)] = _
              rw [lm]
            · have e : stepN acc p = joinF (stepA acc p) (WM.pw p.1 (p.2.headD 0)) m := by unfold stepN stepB; rw [if_pos ⟨ne, h0⟩, lp]; rfl
              rw [e]
              exact p3
    · obtain ⟨s1, ⟨y2, y3, y4, rfl⟩, pl⟩ := pI
      rw [lv, List.take_length] at pl
      exact ⟨_, rfl, q r H' s1 hr0 pl⟩
end
end K13

set_option Elab.async false
set_option linter.all false
set_option maxRecDepth 100000
set_option maxHeartbeats 4000000
namespace K13
open PySem PySem.Spec PyProof.Rows L2 CK SX NM
/-! ### pieces as data -/
def dF (f : F) : PyData := .tuple (f.map fun n : Nat => PyData.int (n : Nat))
def dP (p : Pn) : PyData := .tuple [.str (S p.1), dF p.2]
theorem eqvAll_nats : ∀ f g : F, PyData.eqvAll (f.map fun n : Nat => PyData.int (n : Nat)) (g.map fun n : Nat => PyData.int (n : Nat)) = decide (f = g)
  | [], [] => by simp [PyData.eqvAll]
  | [], _ :: _ => by simp [PyData.eqvAll]
  | _ :: _, [] => by simp [PyData.eqvAll]
  | x :: f, y :: g => by
    rw [List.map_cons, List.map_cons, PyData.eqvAll, eqvAll_nats f g]
    simp [PyData.eqv, Bool.beq_eq_decide_eq]
    by_cases h : x = y
    · subst h
      simp
    · have h' : ¬ ((x : Int) = (y : Int)) := by omega
      simp [h, h']
theorem eqv_dP (p q : Pn) : PyData.eqv (dP p) (dP q) = decide (p = q) := by
  obtain ⟨a, f⟩ := p
  obtain ⟨b, g⟩ := q
  unfold dP dF
  simp only [PyData.eqv, PyData.eqvAll, eqvAll_nats, Bool.and_true]
  have e : (S a == S b) = decide (a = b) := S_beq_eq
  simp only [e]
  by_cases h1 : a = b <;> by_cases h2 : f = g <;> simp [h1, h2]
theorem eqvAll_dP : ∀ a b : List Pn, PyData.eqvAll (a.map dP) (b.map dP) = decide (a = b)
  | [], [] => by simp [PyData.eqvAll]
  | [], _ :: _ => by simp [PyData.eqvAll]
  | _ :: _, [] => by simp [PyData.eqvAll]
  | x :: f, y :: g => by
    rw [List.map_cons, List.map_cons, PyData.eqvAll, eqvAll_dP f g, eqv_dP]
    by_cases h : x = y <;> simp [h]
theorem eqv_dPs (a b : List Pn) : PyData.eqv (.list (a.map dP)) (.list (b.map dP)) = decide (a = b) := by
  rw [← eqvAll_dP]
  simp [PyData.eqv]
theorem str_low {w : List Nat} (h : Low w) : PyData.strOk (S w) = true := by
  unfold PyData.strOk
  rw [← Array.all_toList, List.all_eq_true]
  exact fun c hc => decide_eq_true (by have := h c hc; omega)
theorem lay_nats : ∀ f : F, PyData.canLayAll0 (f.map fun n : Nat => PyData.int (n : Nat)) = true
  | [] => by simp [PyData.canLayAll0]
  | n :: ns => by
    rw [List.map_cons, PyData.canLayAll0, lay_nats ns]
    simp [PyData.canLay0]
theorem deep_nats : ∀ f : F, PyData.depthAll (f.map fun n : Nat => PyData.int (n : Nat)) = 0
  | [] => by simp [PyData.depthAll]
  | n :: ns => by
    rw [List.map_cons, PyData.depthAll, deep_nats ns]
    simp [PyData.depth]
theorem lay_dP {p : Pn} (h : Low p.1) : (dP p).canLay0 = true := by simp [dP, dF, PyData.canLay0, PyData.canLayAll0, str_low h, lay_nats]
theorem deep_dP (p : Pn) : (dP p).depth = 2 := by simp [dP, dF, PyData.depth, PyData.depthAll, deep_nats]
theorem lay_dPs : ∀ ps : List Pn, (∀ p ∈ ps, Low p.1) → PyData.canLayAll0 (ps.map dP) = true
  | [], _ => by simp [PyData.canLayAll0]
  | p :: r, h => by
    rw [List.map_cons, PyData.canLayAll0, lay_dPs r fun q hq => h q (List.mem_cons_of_mem _ hq), lay_dP (h p List.mem_cons_self)]
    rfl
theorem deep_dPs : ∀ ps : List Pn, PyData.depthAll (ps.map dP) ≤ 2
  | [] => by simp [PyData.depthAll]
  | p :: r => by
    have := deep_dPs r
    rw [List.map_cons, PyData.depthAll, deep_dP]
    omega
theorem shaped_dPs {ps : List Pn} (h : ∀ p ∈ ps, Low p.1) : SeqAt.shaped (.list (ps.map dP)) = true := by
  unfold SeqAt.shaped
  rw [PyData.canLay0, lay_dPs ps h, PyData.depth]
  have := deep_dPs ps
  rw [decide_eq_true (by omega)]
  rfl
section
variable {K : PySem.W.Frag} {H : Hp}
theorem dpAll_nats : ∀ f : F, DpAll K H (f.map fun n : Nat => V.int (n : Nat)) (f.map fun n : Nat => PyData.int (n : Nat))
  | [] => .nil
  | n :: ns => .cons (.int _) (dpAll_nats ns)
theorem dp_FT {a : Addr} {f : F} (h : FT H a f) : Dp K H (.ref a) (dF f) := .tup (.inl (.inl h)) (dpAll_nats f)
theorem dp_PC {a : Addr} {p : Pn} (h : PC H a p) : Dp K H (.ref a) (dP p) := by
  obtain ⟨fa, h1, h2⟩ := h
  exact .tup (.inl (.inl h1)) (.cons (.str _) (.cons (dp_FT h2) .nil))
theorem dpAll_Pcs {vs : List V} {ps : List Pn} (h : Pcs H vs ps) : DpAll K H vs (ps.map dP) := by
  induction h with
  | nil => exact .nil
  | cons e _ ih => exact .cons (dp_PC e) ih
theorem dp_PL {l : Addr} {ps : List Pn} (h : PL H l ps) : Dp K H (.ref l) (.list (ps.map dP)) := by
  obtain ⟨vs, e, p⟩ := h
  exact .lst (.inl (.inl e)) (dpAll_Pcs p)
end
/-! ### letters stay letters -/
def LowP (ps : List Pn) : Prop := ∀ p ∈ ps, Low p.1
theorem low_app {a b : List Nat} (h : Low a) (g : Low b) : Low (a ++ b) := fun c hc => (List.mem_append.mp hc).elim (h c) (g c)
theorem low_take {a : List Nat} (h : Low a) (n : Nat) : Low (a.take n) := fun c hc => h c (List.mem_of_mem_take hc)
theorem low_drop {a : List Nat} (h : Low a) (n : Nat) : Low (a.drop n) := fun c hc => h c (List.mem_of_mem_drop hc)
theorem low_pw {a : List Nat} (h : Low a) : ∀ n, Low (WM.pw a n)
  | 0 => fun c hc => absurd hc List.not_mem_nil
  | n + 1 => by rw [WM.pw_succ]; exact low_app h (low_pw h n)
theorem low_rotR {u : List Nat} (h : Low u) (k : Nat) : Low (rotR u k) := low_app (low_drop h _) (low_take h _)
theorem lowP_joinF {acc : List Pn} {z : WM.W} {m : Nat} (h : LowP acc) (hz : Low z) : LowP (joinF acc z m) := fun p hp => by
  rcases mem_joinF hp with x | x | ⟨q, hq, x⟩
  · exact h p x
  · rw [x]; exact hz
  · rw [x]; exact low_app (h q hq) hz
theorem lowP_pushP {acc : List Pn} {u : WM.W} {f : F} (h : LowP acc) (hu : Low u) : LowP (pushP acc u f) := fun p hp => by
  unfold pushP at hp
  split at hp
  · split at hp
    · rcases List.mem_append.mp hp with x | x
      · exact h p (mem_dropLast x)
      · rw [List.mem_singleton.mp x]; exact hu
    · rcases List.mem_append.mp hp with x | x
      · exact h p x
      · rw [List.mem_singleton.mp x]; exact hu
  · rcases List.mem_append.mp hp with x | x
    · exact h p x
    · rw [List.mem_singleton.mp x]; exact hu
theorem low_nil : Low [] := fun c hc => absurd hc List.not_mem_nil
theorem lowP_putP {acc : List Pn} {u : WM.W} {f : F} (h : LowP acc) (hu : Low u) : LowP (putP acc u f) := by
  unfold putP
  split
  · next q hq =>
    split
    · exact lowP_joinF (lowP_pushP h hu) low_nil
    · have lq := h q (List.mem_of_getLast? hq)
      exact lowP_joinF (lowP_pushP (lowP_joinF (fun p hp => h p (mem_dropLast hp)) (low_take lq _)) (low_rotR hu _)) (low_drop lq _)
  · exact lowP_joinF (lowP_pushP h hu) low_nil
theorem lowP_fold : ∀ (ps acc : List Pn), LowP acc → LowP ps → LowP (ps.foldl stepN acc)
  | [], _, h, _ => h
  | p :: r, acc, h, hp => lowP_fold r _ (by
      have lp := hp p List.mem_cons_self
      have hA : LowP (stepA acc p) := by
        unfold stepA
        split
        · exact lowP_putP h (low_take lp _)
        · exact h
      show LowP (stepB (stepA acc p) p)
      unfold stepB
      split
      · exact lowP_joinF hA (low_pw lp _)
      · exact hA) fun q hq => hp q (List.mem_cons_of_mem _ hq)
theorem lowP_normL {ps : List Pn} (h : LowP ps) : LowP (normL ps) := lowP_fold ps [] (fun p hp => absurd hp List.not_mem_nil) h
end K13

set_option Elab.async false
set_option linter.all false
set_option maxRecDepth 100000
set_option maxHeartbeats 4000000
namespace K13
open PySem PySem.Spec PyProof.Rows L2 CK SX NM
theorem sum_meas : ∀ ps : List Pn, (ps.map fun p => ((measP p : Nat) : Int)).sum = ((meas ps : Nat) : Int)
  | [] => rfl
  | p :: r => by
    rw [List.map_cons, List.sum_cons, sum_meas r, meas_cons, Int.natCast_add]
/-- a value that is a piece, or one of the wrong ones that are met -/
inductive PV (H : Hp) (m : Nat) : V → Bool → Prop
  | good {a : Addr} {p : Pn} : PC H a p → p.2.length = m + 1 → p.1.length ≤ 2000 → Low p.1 → PV H m (.ref a) true
  | non : PV H m .non false
  | lst {a : Addr} {xs : List V} : H a = some (.lst xs) → PV H m (.ref a) false
  | long {a fa : Addr} {z : List Nat} : H a = some (.tup [.str (S z), .ref fa]) → 2000 < z.length → z.length ≤ 1000000 → Low z → PV H m (.ref a) false
theorem PV.same {H H' : Hp} {m : Nat} {v : V} {b : Bool} (h : PV H m v b) (s : Same H H') : PV H' m v b := by
  cases h with
  | good h1 h2 h3 h4 => exact .good (h1.mono (tup_same s)) h2 h3 h4
  | non => exact .non
  | lst h => exact .lst (s _ _ h)
  | long h1 h2 h3 h4 => exact .long (s _ _ h1) h2 h3 h4
section
variable {P : Program} {w : World} {K : PySem.W.Frag} {mg : Str → Option Value} {base : Heap} {C : Addr}
def sp_is_piece : Sp := fun vs H Q _ => ∃ (m : Nat) (v : V) (b : Bool), vs = [.int m, v] ∧ m ≤ 3 ∧ PV H m v b ∧ ∀ H', Same H H' → Q (.bl b) H'
theorem c_is_piece (T : Txt K mg C) : C8.Cal P w K mg base 4 "is_piece" sp_is_piece [] := by
  refine calF T.d_is_piece sc_is_piece (fun vs H Q E h => ?_) (fun f cdv A outer s H vs Q E hr h => ?_)
  · obtain ⟨_, _, _, rfl, _⟩ := h; rfl
  · obtain ⟨m, v, b, rfl, m3, hv, q⟩ := h
    refine ⟨_, (pss_cons (ps_if (PW.pt (pw_or (pt_not (pt_val (pe_callB call_isK (by rfl) T.m_isinstance (by decide +kernel) (pa_cons (pv 1) (pa_cons (pe_bltn (v := .ty "tuple") (by rfl) T.m_tuple (by decide +kernel) rfl) pa_nil))))) (pw_or1 (pt_cmpR op_ne (pe_callB call_len_seq (by rfl) T.m_len (by decide +kernel) (pa_cons (pv 1) pa_nil)) pe_int (nomark _)))))
    (pss_one (ps_ret pe_bl))
    pss_nil)
    (pss_one (ps_ret (pe_and (C8.pe_c (c_is_lettered T) hr (by decide) (by rfl) (pa_cons (pe_ix ix_tup (pv 1) pe_int (fun _ _ => rfl)) (pa_cons (C8.pe_gc (by rfl) T.k_MOST_PIECE_LETTERS) pa_nil))) (pe_one (C8.pe_c (c_is_form_for T) hr (by decide) (by rfl) (pa_cons (pv 0) (pa_cons (pe_ix ix_tup (pv 1) pe_int (fun _ _ => rfl)) pa_nil)))))))), ?_⟩
    cases hv with
    | non => exact ⟨_, rfl, .non, "tuple", _, rfl, .non, kit_tuple .non, _, rfl, iteT (q H (Same.refl _))⟩
    | lst h =>
      rename_i a xs
      have kn : Kn H (.ref a) := .lst h
      refine ⟨_, rfl, .ref a, "tuple", _, rfl, kn, kit_tuple kn, _, rfl, ?_⟩
      rw [show isTu H (.ref a) = false by simp only [isTu, h]]
      exact iteT (q H (Same.refl _))
    | long h1 h2 h3 h4 =>
      rename_i a fa z
      have kn : Kn H (.ref a) := .tup h1
      refine ⟨_, rfl, .ref a, "tuple", _, rfl, kn, kit_tuple kn, _, rfl, ?_⟩
      rw [isTu_tup h1]
      refine iteF ⟨_, rfl, a, _, rfl, .inr (.inl (.inl h1)), rfl, _, rfl, iteF ?_⟩
      refine ⟨_, rfl, a, _, 0, _, rfl, rfl, .inl (.inl h1), atI_nat (j := 0) rfl, z, 2000, rfl, h3, h4, _, rfl, ?_⟩
      rw [decide_eq_false (by omega)]
      exact iteF (q H (Same.refl _))
    | good h1 h2 h3 h4 =>
      rename_i a p
      obtain ⟨fa, e1, e2⟩ := h1
      have kn : Kn H (.ref a) := .tup e1
      refine ⟨_, rfl, .ref a, "tuple", _, rfl, kn, kit_tuple kn, _, rfl, ?_⟩
      rw [isTu_tup e1]
      refine iteF ⟨_, rfl, a, _, rfl, .inr (.inl (.inl e1)), rfl, _, rfl, iteF ?_⟩
      refine ⟨_, rfl, a, _, 0, _, rfl, rfl, .inl (.inl e1), atI_nat (j := 0) rfl, p.1, 2000, rfl, by omega, h4, _, rfl, ?_⟩
      rw [decide_eq_true (show p.1.length ≤ 2000 from h3)]
      refine iteT ⟨_, rfl, _, rfl, a, _, 1, _, rfl, rfl, .inl (.inl e1), atI_nat (j := 1) rfl, (m : Int), .ref fa, rfl, .tup e2, fun b xs eb hb => ?_, fun H1 s1 => ?_⟩
      · cases eb
        have := hb.symm.trans e2
        cases this
        exact ⟨small1000 (by rw [List.length_map, h2]; omega), kn_nats⟩
      · rw [formB_FT e2 h2]
        exact q H1 s1
def sp_measure : Sp := fun vs H Q _ => ∃ (l : Addr) (ps : List Pn) (m : Nat), vs = [.ref l] ∧ PL H l ps ∧ LenF m ps ∧ Ws 1000000 ps ∧ (∀ p ∈ ps, Bf p.2) ∧ ps.length ≤ 1000000 ∧ ∀ H', Same H H' → Q (.int (meas ps : Nat)) H'
theorem c_measure (T : Txt K mg C) : C8.Cal P w K mg base 2 "measure" sp_measure [] := by
  refine calF T.d_measure sc_measure (fun vs H Q E h => ?_) (fun f cdv A outer s H vs Q E hr h => ?_)
  · obtain ⟨_, _, _, rfl, _⟩ := h; rfl
  · obtain ⟨l, ps, m, rfl, ⟨vs, hl, hp⟩, lF, ws, bf, hlen, q⟩ := h
    have len := hp.len
    refine ⟨_, (pss_one (ps_ret (pe_callB (cr_sum rfl) (by rfl) T.m_sum (by decide +kernel) (pa_cons (pe_lc (own := [("word", 1), ("form", 2)]) (by rfl) sc_measure.nd (pi_list (pv 0)) (blkOk_by (N := ["pieces", "word", "form"]) (sc := C8.fnScope (topS 34)) (own := [("word", 1), ("form", 2)]) (by decide +kernel)) (fun _ _ _ _ _ => (pg_two (K := K) (i := 1) (j := 2) rfl rfl sc_measure.nd rfl rfl (Or.inl rfl) (Or.inl rfl))) (fun _ _ _ _ _ => pts_nil) (fun _ _ _ _ _ => (pe_op op_mulZ (pe_callB call_len_str (by rfl) T.m_len (by decide +kernel) (pa_cons (pv 1) pa_nil)) (pe_op op_addB (pe_ix ix_tupH (pv 2) pe_int (fun _ _ => rfl)) (C8.pe_c (c_is_open_form T) hr (by decide) (by rfl) (pa_cons (pv 2) pa_nil)))))) pa_nil)))), ?_⟩
    refine ⟨_, rfl, l, rfl, ⟨_, .inl (.inl hl)⟩, fun D hD => ?_⟩
    refine lc_list (K := K) (a := l) (xs := vs) (fun i H1 => Same H H1 ∧ H1 D = some (.lst ((ps.take i).map fun p => V.int ((measP p : Nat) : Int)))) ⟨sameNew hD, by rw [upd_same]; rfl⟩ (fun i H1 _ p => .inl (.inl (p.1 _ _ hl))) (fun i y H1 hi p => ?_) fun H1 p => ?_
    · obtain ⟨s1, hD1⟩ := p
      obtain ⟨a, p, rfl, hpi, pc⟩ := hp.get hi
      have mem := List.mem_of_getElem? hpi
      have hii := (List.getElem?_eq_some_iff.mp hpi).1
      have lp := lF p mem
      have wp := ws p mem
      obtain ⟨fa, e1, e2⟩ := pc.mono (tup_same s1)
      have bh : p.2.headD 0 < 2 ^ 900 := by
        cases e : p.2 with
        | nil => rw [e] at lp; simp at lp
        | cons x f => exact bf p mem x (by rw [e]; exact List.mem_cons_self)
      refine ⟨a, _, rfl, .inl (.inl e1), rfl, _, _, rfl, _, _, rfl, rfl, rfl, ?_⟩
      refine ⟨_, rfl, S p.1, rfl, len_line (by omega), _, rfl, fa, _, 0, _, rfl, rfl, e2, atI_nat (j := 0) (head_get lp), _, rfl, fa, p.2, rfl, e2, fun H2 s2 => ?_⟩
      refine ⟨_, _, rfl, rfl, p.1.length, p.2.headD 0 + (if isOpen p.2 then 1 else 0), congrArg (fun n : Nat => V.int n) (S_len _), congrArg V.int (by split <;> simp), by omega, by split <;> omega, _, s2 _ _ hD1, ?_, same_upd2 hD (s1.trans s2), ?_⟩
      · rw [List.length_map, List.length_take, sizeLine_eq]
        omega
      · rw [upd_same, List.take_succ, hpi]
        simp [measP]
    · obtain ⟨s1, hD1⟩ := p
      rw [len, List.take_length] at hD1
      refine ⟨D, ps.map fun p => ((measP p : Nat) : Int), rfl, .inl (.inl (by rw [hD1, List.map_map]; rfl)), ?_⟩
      rw [sum_meas]
      exact q _ s1
end
end K13

set_option Elab.async false
set_option linter.all false
set_option maxRecDepth 100000
set_option maxHeartbeats 4000000
namespace K13
open PySem PySem.Spec PyProof.Rows L2 CK SX NM
/-- a list of pieces, as the program lets it -/
structure GL (H : Hp) (m : Nat) (l : Addr) (ps : List Pn) : Prop where
  at_ : PL H l ps
  len : LenF m ps
  ws : Ws 2000 ps
  low : LowP ps
  bf : ∀ p ∈ ps, Bf p.2
  few : ps.length ≤ 5000
theorem GL.same {H H' : Hp} {m : Nat} {l : Addr} {ps : List Pn} (h : GL H m l ps) (s : Same H H') : GL H' m l ps := ⟨h.at_.same s, h.len, h.ws, h.low, h.bf, h.few⟩
inductive PLV (H : Hp) (m : Nat) : V → Bool → Prop
  | tup {a : Addr} {xs : List V} : H a = some (.tup xs) → PLV H m (.ref a) false
  | bad {l : Addr} {vs : List V} {bs : List Bool} : H l = some (.lst vs) → vs.length ≤ 5000 → bs.length = vs.length → (∀ (i : Nat) (v : V) (b : Bool), vs[i]? = some v → bs[i]? = some b → PV H m v b) → bs.all id = false → PLV H m (.ref l) false
  | good {l : Addr} {ps : List Pn} : GL H m l ps → PLV H m (.ref l) (decide (meas ps ≤ 2000))
theorem small1000000 {n : Nat} (h : n ≤ 1000000) : n < sizeLine := by rw [sizeLine_eq]; omega
theorem range_bools (bs : List Bool) : (List.range bs.length).map (fun i => V.bl (bs.getD i false)) = bs.map V.bl := by
  refine List.ext_getElem? fun i => ?_
  by_cases h : i < bs.length
  · rw [List.getElem?_map, List.getElem?_range h, List.getElem?_map, List.getElem?_eq_getElem h]
    show some (V.bl (bs.getD i false)) = some (V.bl bs[i])
    rw [List.getD_eq_getElem?_getD, List.getElem?_eq_getElem h]
    rfl
  · rw [List.getElem?_eq_none (by simp; omega), List.getElem?_eq_none (by simp; omega)]
section
variable {P : Program} {w : World} {K : PySem.W.Frag} {mg : Str → Option Value} {base : Heap} {C : Addr}
def sp_is_piece_list : Sp := fun vs H Q _ => ∃ (m : Nat) (v : V) (r : Bool), vs = [.int m, v] ∧ m ≤ 3 ∧ PLV H m v r ∧ ∀ H', Same H H' → Q (.bl r) H'
theorem c_is_piece_list (T : Txt K mg C) : C8.Cal P w K mg base 5 "is_piece_list" sp_is_piece_list [] := by
  refine calF T.d_is_piece_list sc_is_piece_list (fun vs H Q E h => ?_) (fun f cdv A outer s H vs Q E hr h => ?_)
  · obtain ⟨_, _, _, rfl, _⟩ := h; rfl
  · obtain ⟨m, v, r, rfl, m3, hv, q⟩ := h
    refine ⟨_, (pss_cons (ps_if (PW.pt (pw_or (pt_not (pt_val (pe_callB call_isK (by rfl) T.m_isinstance (by decide +kernel) (pa_cons (pv 1) (pa_cons (pe_bltn (v := .ty "list") (by rfl) T.m_list (by decide +kernel) rfl) pa_nil))))) (pw_or1 (pt_cmpR op_gt (pe_callB call_len_seq (by rfl) T.m_len (by decide +kernel) (pa_cons (pv 1) pa_nil)) (C8.pe_gc (by rfl) T.k_MOST_PIECES) (nomark _)))))
    (pss_one (ps_ret pe_bl))
    pss_nil)
    (pss_one (ps_ret (pe_and (pe_callB (cr_all rfl) (by rfl) T.m_all (by decide +kernel) (pa_cons (pe_lc (own := [("item", 2)]) (by rfl) sc_is_piece_list.nd (pi_list (pv 1)) (blkOk_by (N := ["many", "value", "item"]) (sc := C8.fnScope (topS 30)) (own := [("item", 2)]) (by decide +kernel)) (fun _ _ _ _ _ => (pg_name (i := 2) sc_is_piece_list.nd rfl (Or.inl rfl))) (fun _ _ _ _ _ => pts_nil) (fun _ _ _ _ _ => (C8.pe_c (c_is_piece T) hr (by decide) (by rfl) (pa_cons (pv 0) (pa_cons (pv 2) pa_nil))))) pa_nil)) (pe_one (pe_cmpR op_le (C8.pe_c (c_measure T) hr (by decide) (by rfl) (pa_cons (pv 1) pa_nil)) (C8.pe_gc (by rfl) T.k_MOST_MEASURE) (nomark _))))))), ?_⟩
    cases hv with
    | tup h =>
      rename_i a xs
      have kn : Kn H (.ref a) := .tup h
      refine ⟨_, rfl, .ref a, "list", _, rfl, kn, kit_list kn, _, rfl, ?_⟩
      rw [show isLi H (.ref a) = false by simp only [isLi, h]]
      exact iteT (q H (Same.refl _))
    | bad h1 h2 h3 h4 h5 =>
      rename_i l vs bs
      have kn : Kn H (.ref l) := .lst h1
      refine ⟨_, rfl, .ref l, "list", _, rfl, kn, kit_list kn, _, rfl, ?_⟩
      rw [isLi_lst h1]
      refine iteF ⟨_, rfl, l, _, rfl, .inl (.inl (.inl h1)), _, 5000, rfl, rfl, _, rfl, ?_⟩
      rw [decide_eq_false (by omega)]
      refine iteF ⟨_, rfl, l, rfl, ⟨_, .inl (.inl h1)⟩, fun D hD => ?_⟩
      refine lcL_mapI (K := K) (a := l) (xs := vs) (fun i => V.bl (bs.getD i false)) h1 (small1000000 (by omega)) (fun i x H' R hx s' q' => ?_) hD fun H' s' hL => ?_
      · have hi := (List.getElem?_eq_some_iff.mp hx).1
        have hb := List.getElem?_eq_getElem (show i < bs.length by omega)
        have e : bs.getD i false = bs[i]'(by omega) := by rw [List.getD_eq_getElem?_getD, hb]; rfl
        refine ⟨rfl, _, rfl, _, rfl, m, x, bs[i]'(by omega), rfl, m3, (h4 i x _ hx hb).same s', fun H'' s'' => ?_⟩
        rw [← e]
        exact q' H'' s''
      · rw [← h3, range_bools] at hL
        refine ⟨D, bs, rfl, .inl (.inl hL), _, rfl, ?_⟩
        rw [h5]
        exact iteF (q H' s')
    | good g =>
      rename_i l ps
      obtain ⟨vs, h1, hp⟩ := id g.at_
      have lv := hp.len
      have hf := g.few
      have kn : Kn H (.ref l) := .lst h1
      refine ⟨_, rfl, .ref l, "list", _, rfl, kn, kit_list kn, _, rfl, ?_⟩
      rw [isLi_lst h1]
      refine iteF ⟨_, rfl, l, _, rfl, .inl (.inl (.inl h1)), _, 5000, rfl, rfl, _, rfl, ?_⟩
      rw [decide_eq_false (by omega)]
      refine iteF ⟨_, rfl, l, rfl, ⟨_, .inl (.inl h1)⟩, fun D hD => ?_⟩
      refine lcL_mapI (K := K) (a := l) (xs := vs) (fun _ => V.bl true) h1 (small1000000 (by omega)) (fun i x H' R hx s' q' => ?_) hD fun H' s' hL => ?_
      · obtain ⟨a, p, rfl, hpi, pc⟩ := hp.get hx
        have mem := List.mem_of_getElem? hpi
        exact ⟨rfl, _, rfl, _, rfl, m, _, true, rfl, m3, .good (pc.mono (tup_same s')) (g.len p mem) (g.ws p mem) (g.low p mem), q'⟩
      · refine ⟨D, (List.range vs.length).map fun _ => true, rfl, .inl (.inl (by rw [hL, List.map_map]; rfl)), _, rfl, ?_⟩
        rw [show ((List.range vs.length).map fun _ => true).all id = true by simp]
        refine iteT ⟨_, rfl, l, ps, m, rfl, g.at_.same s', g.len, fun p hp => by have := g.ws p hp; omega, g.bf, by omega, fun H2 s2 => ⟨_, _, rfl, rfl, ?_⟩⟩
        show Q (V.bl (decide (((meas ps : Nat) : Int) ≤ 2000))) H2
        rw [show decide (((meas ps : Nat) : Int) ≤ 2000) = decide (meas ps ≤ 2000) by congr 1; exact propext ⟨fun h => by omega, fun h => by omega⟩]
        exact q H2 (s'.trans s2)
def sp_need_measure : Sp := fun vs H Q _ => ∃ (n : Nat), vs = [.int n] ∧ n ≤ 2000 ∧ Q .non H
theorem c_need_measure (T : Txt K mg C) : C8.Cal P w K mg base 1 "need_measure" sp_need_measure [] := by
  refine calF T.d_need_measure sc_need_measure (fun vs H Q E h => ?_) (fun f cdv A outer s H vs Q E hr h => ?_)
  · obtain ⟨_, rfl, _⟩ := h; rfl
  · obtain ⟨n, rfl, hn, q⟩ := h
    refine ⟨_, (pss_one (ps_if (pt_cmpR op_gt (pv 0) (C8.pe_gc (by rfl) T.k_MOST_MEASURE) (nomark _))
    (pss_one ps_never)
    pss_nil)), ?_⟩
    refine ⟨_, rfl, _, 2000, rfl, rfl, _, rfl, ?_⟩
    rw [decide_eq_false (by omega)]
    exact iteF q
def sp_need_pieces : Sp := fun vs H Q _ => ∃ (m : Nat) (l : Addr) (ps : List Pn), vs = [.int m, .ref l] ∧ m ≤ 3 ∧ GL H m l ps ∧ meas ps ≤ 2000 ∧ ∀ H', Same H H' → Q .non H'
theorem c_need_pieces (T : Txt K mg C) : C8.Cal P w K mg base 5 "need_pieces" sp_need_pieces [] := by
  refine calF T.d_need_pieces sc_need_pieces (fun vs H Q E h => ?_) (fun f cdv A outer s H vs Q E hr h => ?_)
  · obtain ⟨_, _, _, rfl, _⟩ := h; rfl
  · obtain ⟨m, l, ps, rfl, m3, g, hme, q⟩ := h
    obtain ⟨vs, h1, hp⟩ := id g.at_
    have lv := hp.len
    have hf := g.few
    have kn : Kn H (.ref l) := .lst h1
    refine ⟨_, (pss_cons (ps_expr (C8.pe_c (c_need_many T) hr (by decide) (by rfl) (pa_cons (pv 0) pa_nil)))
    (pss_cons (ps_if (PW.pt (pw_or (pt_not (pt_val (pe_callB call_isK (by rfl) T.m_isinstance (by decide +kernel) (pa_cons (pv 1) (pa_cons (pe_bltn (v := .ty "list") (by rfl) T.m_list (by decide +kernel) rfl) pa_nil))))) (pw_or1 (pt_cmpR op_gt (pe_callB call_len_seq (by rfl) T.m_len (by decide +kernel) (pa_cons (pv 1) pa_nil)) (C8.pe_gc (by rfl) T.k_MOST_PIECES) (nomark _)))))
    (pss_one ps_never)
    pss_nil)
    (pss_cons (ps_for PassesOwn.never rfl (pi_list (pv 1)) (pg_name (i := 2) sc_need_pieces.nd rfl (Or.inl rfl))
    (pss_one (ps_if (pt_not (pt_val (C8.pe_c (c_is_piece T) hr (by decide) (by rfl) (pa_cons (pv 0) (pa_cons (pv 2) pa_nil)))))
    (pss_one ps_never)
    pss_nil)))
    (pss_one (ps_expr (C8.pe_c (c_need_measure T) hr (by decide) (by rfl) (pa_cons (C8.pe_c (c_measure T) hr (by decide) (by rfl) (pa_cons (pv 1) pa_nil)) pa_nil))))))), ?_⟩
    refine ⟨_, rfl, m, rfl, by omega, by omega, ?_⟩
    refine ⟨_, rfl, .ref l, "list", _, rfl, kn, kit_list kn, _, rfl, ?_⟩
    rw [isLi_lst h1]
    refine iteF ⟨_, rfl, l, _, rfl, .inl (.inl (.inl h1)), _, 5000, rfl, rfl, _, rfl, ?_⟩
    rw [decide_eq_false (by omega)]
    refine iteF ?_
    refine ⟨_, rfl, l, rfl, ⟨_, .inl (.inl h1)⟩, for_list (K := K) (a := l) (xs := vs) (fun i σ H' => Same H H' ∧ ∃ y2, σ = [some (.int m), some (.ref l), y2]) ⟨Same.refl _, none, rfl⟩ (fun i σ H' _ p => .inl (.inl (p.1 _ _ h1))) (fun i y σ H' hi p => ?_) (fun σ H' p => ?_)⟩
    · obtain ⟨s1, y2, rfl⟩ := p
      obtain ⟨a, p, rfl, hpi, pc⟩ := hp.get hi
      have mem := List.mem_of_getElem? hpi
      exact ⟨_, rfl, _, rfl, m, _, true, rfl, m3, .good (pc.mono (tup_same s1)) (g.len p mem) (g.ws p mem) (g.low p mem), fun H2 s2 => ⟨_, rfl, iteF ⟨s1.trans s2, _, rfl⟩⟩⟩
    · obtain ⟨s1, y2, rfl⟩ := p
      exact ⟨_, rfl, l, ps, m, rfl, g.at_.same s1, g.len, fun p hp => by have := g.ws p hp; omega, g.bf, by omega, fun H2 s2 => ⟨meas ps, rfl, hme, q H2 (s1.trans s2)⟩⟩
def sp_normal : Sp := fun vs H Q _ => ∃ (m : Nat) (l : Addr) (ps : List Pn), vs = [.int m, .ref l] ∧ m ≤ 3 ∧ GL H m l ps ∧ meas ps ≤ 2000 ∧ ∀ r H', Same H H' → H r = none → PL H' r (normL ps) → Q (.ref r) H'
theorem c_normal (T : Txt K mg C) : C8.Cal P w K mg base 6 "normal" sp_normal [] := by
  refine calF T.d_normal sc_normal (fun vs H Q E h => ?_) (fun f cdv A outer s H vs Q E hr h => ?_)
  · obtain ⟨_, _, _, rfl, _⟩ := h; rfl
  · obtain ⟨m, l, ps, rfl, m3, g, hme, q⟩ := h
    have hf := g.few
    refine ⟨_, (pss_cons (ps_expr (C8.pe_c (c_need_pieces T) hr (by decide) (by rfl) (pa_cons (pv 0) (pa_cons (pv 1) pa_nil))))
    (pss_one (ps_ret (C8.pe_c (c_normal_pieces T) hr (by decide) (by rfl) (pa_cons (pv 1) pa_nil))))), ?_⟩
    exact ⟨_, rfl, _, rfl, m, l, ps, rfl, m3, g, hme, fun H1 s1 => ⟨_, rfl, l, ps, m, rfl, g.at_.same s1, g.len, m3, by omega, fun p hp => by have := g.ws p hp; omega, g.bf, by omega, fun r H2 s2 n2 p2 => q r H2 (s1.trans s2) (s1.free n2) p2⟩⟩
def sp_is_normal : Sp := fun vs H Q _ => ∃ (m : Nat) (v : V), vs = [.int m, v] ∧ m ≤ 3 ∧
  ((PLV H m v false ∧ ∀ H', Same H H' → Q (.bl false) H') ∨ ∃ l ps, v = .ref l ∧ GL H m l ps ∧ ∀ H', Same H H' → Q (.bl (decide (meas ps ≤ 2000) && decide (normL ps = ps))) H')
theorem c_is_normal (T : Txt K mg C) : C8.Cal P w K mg base 6 "is_normal" sp_is_normal [] := by
  refine calF T.d_is_normal sc_is_normal (fun vs H Q E h => ?_) (fun f cdv A outer s H vs Q E hr h => ?_)
  · obtain ⟨_, _, rfl, _⟩ := h; rfl
  · obtain ⟨m, v, rfl, m3, h⟩ := h
    refine ⟨_, (pss_cons (ps_expr (C8.pe_c (c_need_many T) hr (by decide) (by rfl) (pa_cons (pv 0) pa_nil)))
    (pss_one (ps_ret (pe_and (C8.pe_c (c_is_piece_list T) hr (by decide) (by rfl) (pa_cons (pv 0) (pa_cons (pv 1) pa_nil))) (pe_one (pe_cmpR (op_eqD hr.units) (C8.pe_c (c_normal_pieces T) hr (by decide) (by rfl) (pa_cons (pv 1) pa_nil)) (pv 1) (nomark _))))))), ?_⟩
    refine ⟨_, rfl, m, rfl, by omega, by omega, ?_⟩
    rcases h with ⟨h, q⟩ | ⟨l, ps, rfl, g, q⟩
    · exact ⟨_, rfl, _, rfl, m, v, false, rfl, m3, h, fun H1 s1 => ⟨_, rfl, iteF (q H1 s1)⟩⟩
    · have hf := g.few
      refine ⟨_, rfl, _, rfl, m, _, _, rfl, m3, .good g, fun H1 s1 => ⟨_, rfl, ?_⟩⟩
      by_cases hme : meas ps ≤ 2000
      · rw [decide_eq_true hme] at q ⊢
        rw [Bool.true_and] at q
        refine iteT ⟨_, rfl, l, ps, m, rfl, g.at_.same s1, g.len, m3, by omega, fun p hp => by have := g.ws p hp; omega, g.bf, by omega, fun r H2 s2 n2 p2 => ⟨_, rfl, .list ((normL ps).map dP), .list (ps.map dP), dp_PL p2, dp_PL (g.at_.same (s1.trans s2)), shaped_dPs (lowP_normL g.low), shaped_dPs g.low, ?_⟩⟩
        rw [eqv_dPs]
        exact q H2 (s1.trans s2)
      · rw [decide_eq_false hme] at q ⊢
        rw [Bool.false_and] at q
        exact iteF (q H1 s1)
end
end K13

set_option Elab.async false
set_option linter.all false
set_option maxRecDepth 100000
set_option maxHeartbeats 4000000
namespace K13
open PySem PySem.Spec PyProof.Rows L2 CK SX NM
section
variable {P : Program} {w : World} {K : PySem.W.Frag} {mg : Str → Option Value} {base : Heap} {C : Addr}
/-! ### the law's own defs -/
theorem fm0 {i j : Int} (h : 0 < j) : 0 ≤ i.fmod j := Int.fmod_nonneg_of_pos i h
theorem fm1 {i j : Int} (h : 0 < j) : i.fmod j < j := Int.fmod_lt_of_pos i h
theorem ab {i : Int} {k : Nat} (h0 : 0 ≤ i) (h : i < 2 ^ k) : i.natAbs < 2 ^ k := by
  have e : ((2 ^ k : Nat) : Int) = 2 ^ k := by simp
  omega
def sp_hash : Sp := fun vs H Q _ => ∃ s i : Int, vs = [.int s, .int i] ∧ 0 ≤ s ∧ s < 2 ^ 31 ∧ 0 ≤ i ∧ i < 2 ^ 41 ∧ ∀ r : Int, 0 ≤ r → r < 2 ^ 31 → Q (.int r) H
theorem c_law_hash (T : Txt K mg C) : C8.Cal P w K mg base 1 "_law_hash" sp_hash [] := by
  refine calF T.d_law_hash sc_law_hash (fun vs H Q E h => ?_) (fun f cdv A outer s H vs Q E hr h => ?_)
  · obtain ⟨_, _, rfl, _⟩ := h; rfl
  · obtain ⟨z, i, rfl, h0, h1, h2, h3, q⟩ := h
    refine ⟨_, (pss_cons (ps_set (i := 2) sc_law_hash.nd rfl (Or.inl rfl) (pe_op op_modN (pe_callTy call_int1 (by rfl) T.m_int (by decide +kernel) (pa_cons (pe_op op_add (pe_op op_add (pe_op op_add (pe_op op_mulW (pv 0) pe_int) (pe_op op_mulW (pe_op op_mulW pe_int (pv 1)) (pv 1))) (pe_op op_mulW pe_int (pv 1))) pe_int) pa_nil)) pe_int))
    (pss_cons (ps_set (i := 2) sc_law_hash.nd rfl (Or.inl rfl) (pe_op op_modN (pe_callTy call_int1 (by rfl) T.m_int (by decide +kernel) (pa_cons (pe_op op_add (pe_op op_add (pe_op op_mulW (pv 2) (pv 2)) (pe_op op_mulW pe_int (pv 1))) pe_int) pa_nil)) pe_int))
    (pss_one (ps_ret (pe_op op_modN (pe_callTy call_int1 (by rfl) T.m_int (by decide +kernel) (pa_cons (pe_op op_mulW (pv 2) pe_int) pa_nil)) pe_int))))), ?_⟩
    have a1 : z.natAbs < 2 ^ 100 := ab h0 (by omega)
    have a2 : i.natAbs < 2 ^ 100 := ab h2 (by omega)
    have a3 : ((27644437 : Int)).natAbs < 2 ^ 100 := by decide
    have a4 := wide_lt a3 a2
    refine ⟨_, rfl, z, _, rfl, rfl, wide_mul a1 (show ((1140671 : Int)).natAbs < 2 ^ 100 by decide) (by decide) (by decide) (by decide), ?_⟩
    refine ⟨_, rfl, _, i, rfl, rfl, wide_mul a3 a2 (by decide) (by decide) (by decide), _, rfl, _, i, rfl, rfl, wide_mul a4 a2 (by decide) (by decide) (by decide), _, _, rfl, rfl, ?_⟩
    refine ⟨_, rfl, _, i, rfl, rfl, wide_mul (show ((131 : Int)).natAbs < 2 ^ 100 by decide) a2 (by decide) (by decide) (by decide), _, _, rfl, rfl, _, _, rfl, rfl, .inl ⟨_, rfl, _, _, rfl, rfl, (by decide : (2147483629 : Int) ≠ 0), ?_⟩⟩
    obtain ⟨m, hm⟩ : ∃ m, (z * 1140671 + 27644437 * i * i + 131 * i + 19).fmod 2147483629 = m := ⟨_, rfl⟩
    have m0 : 0 ≤ m := by rw [← hm]; exact fm0 (by decide)
    have m1 : m < 2147483629 := by rw [← hm]; exact fm1 (by decide)
    have a5 : m.natAbs < 2 ^ 100 := ab m0 (by omega)
    refine ⟨_, rfl, _, rfl, m, m, congrArg V.int hm, congrArg V.int hm, wide_mul a5 a5 (by decide) (by decide) (by decide), ?_⟩
    refine ⟨_, rfl, _, i, rfl, rfl, wide_mul (show ((62089 : Int)).natAbs < 2 ^ 100 by decide) a2 (by decide) (by decide) (by decide), _, _, rfl, rfl, _, _, rfl, rfl, .inl ⟨_, rfl, _, _, rfl, rfl, (by decide : (2147483587 : Int) ≠ 0), ?_⟩⟩
    obtain ⟨k, hk⟩ : ∃ k, (m * m + 62089 * i + 32416187).fmod 2147483587 = k := ⟨_, rfl⟩
    have k0 : 0 ≤ k := by rw [← hk]; exact fm0 (by decide)
    have k1 : k < 2147483587 := by rw [← hk]; exact fm1 (by decide)
    have a6 : k.natAbs < 2 ^ 100 := ab k0 (by omega)
    refine ⟨_, rfl, k, _, congrArg V.int hk, rfl, wide_mul a6 (show ((48271 : Int)).natAbs < 2 ^ 100 by decide) (by decide) (by decide) (by decide), .inl ⟨_, rfl, _, _, rfl, rfl, (by decide : (2147483647 : Int) ≠ 0), ?_⟩⟩
    exact q _ (fm0 (by decide)) (Int.lt_trans (fm1 (by decide)) (by decide))
def sp_random : Sp := fun vs H Q _ => ∃ (g : Addr) (b : Int) (n : Nat), vs = [.ref g, .int b] ∧ Gn (n + 1) H g ∧ 1 ≤ b ∧ b < 2 ^ 200 ∧ ∀ (r : Int) H', SameX g H H' → Gn n H' g → 0 ≤ r → r < b → Q (.int r) H'
theorem pow32 (i : Nat) : (2 : Int) ^ (32 * (i + 1)) = 2 ^ (32 * i) * 4294967296 := by
  rw [Nat.mul_add, Int.pow_add]
  rfl
theorem pow_ge1 (i : Nat) : (1 : Int) ≤ 2 ^ i := by
  have := Int.pow_pos (n := 2) (m := i) (by decide)
  omega
theorem c_law_random (T : Txt K mg C) : C8.Cal P w K mg base 2 "_law_random" sp_random [] := by
  refine calF T.d_law_random sc_law_random (fun vs H Q E h => ?_) (fun f cdv A outer s H vs Q E hr h => ?_)
  · obtain ⟨_, _, _, rfl, _⟩ := h; rfl
  · obtain ⟨g, b, n, rfl, G, hb, hb2, q⟩ := h
    refine ⟨_, (pss_cons (ps_if (pt_cmpR op_gt (pe_ix ix_list (pv 0) pe_int (fun _ _ => rfl)) pe_int (nomark _))
    (pss_cons (ps_set (i := 2) sc_law_random.nd rfl (Or.inl rfl) (pe_op op_modN (pe_callTy call_int1 (by rfl) T.m_int (by decide +kernel) (pa_cons (pe_ix ix_list (pv 0) pe_int (fun _ _ => rfl)) pa_nil)) (pv 1)))
    (pss_cons (ps_asg (pe_op op_fdivW (pe_ix ix_list (pv 0) pe_int (fun _ _ => rfl)) (pv 1)) (pg_sub (pv 0) pe_int set_list))
    (pss_one (ps_ret (pv 2)))))
    pss_nil)
    (pss_cons (ps_set (i := 2) sc_law_random.nd rfl (Or.inl rfl) pe_int)
    (pss_cons (ps_for PassesOwn.never rfl (pi_range1 (by rfl) T.m_range (pa_cons (pe_op op_add pe_int (pe_op op_fdivW (pe_bits (pv 1)) pe_int)) pa_nil)) (pg_name (i := 3) sc_law_random.nd rfl (Or.inl rfl))
    (pss_cons (ps_asg (pe_op op_add (pe_ix ix_list (pv 0) pe_int (fun _ _ => rfl)) pe_int) (pg_sub (pv 0) pe_int set_list))
    (pss_one (ps_set (i := 2) sc_law_random.nd rfl (Or.inl rfl) (pe_op op_add (pe_op op_mulW (pv 2) pe_int) (C8.pe_c (c_law_hash T) hr (by decide) (by rfl) (pa_cons (pe_ix ix_list (pv 0) pe_int (fun _ _ => rfl)) (pa_cons (pe_ix ix_list (pv 0) pe_int (fun _ _ => rfl)) pa_nil))))))))
    (pss_one (ps_ret (pe_op op_modN (pe_callTy call_int1 (by rfl) T.m_int (by decide +kernel) (pa_cons (pv 2) pa_nil)) (pv 1))))))), ?_⟩
    obtain ⟨x, y, c, hg, x0, y0, y1, c0, c1⟩ := G
    refine ⟨_, rfl, g, _, 0, .int x, rfl, rfl, .inl (.inl hg), atI_nat (j := 0) rfl, x, 0, rfl, rfl, _, rfl, ite2 (fun e => ?_) (fun e => ?_)⟩
    · -- a digit
      refine ⟨_, rfl, g, _, 0, .int x, rfl, rfl, .inl (.inl hg), atI_nat (j := 0) rfl, .inl ⟨x, rfl, _, rfl, x, b, rfl, rfl, by omega, ?_⟩⟩
      refine ⟨_, rfl, g, _, 0, .int x, rfl, rfl, .inl (.inl hg), atI_nat (j := 0) rfl, _, rfl, x, b, rfl, rfl, wide_div (b := 200) (by omega) (ab (by omega) hb2) (by decide) (by decide), _, rfl, g, _, 0, 0, rfl, rfl, hg, rfl, ?_⟩
      exact ⟨_, rfl, q _ _ sameX_upd ⟨x / b, y, c, upd_same, Int.ediv_nonneg x0 (by omega), y0, y1, c0, by omega⟩ (fm0 (by omega)) (fm1 (by omega))⟩
    · -- by the hash
      have ib : Builtin.Int.intBits b ≤ 200 := intBits_le (ab (by omega) hb2)
      have tn : (1 + ((Builtin.Int.intBits b : Nat) : Int) / 30).toNat ≤ 7 := by omega
      refine ⟨_, rfl, b, rfl, _, _, rfl, rfl, wide_div (b := 200) (by decide) (by decide) (by decide) (by decide), _, _, rfl, rfl, _, rfl, by omega, by omega, ?_⟩
      refine for_it walk_range (fun i σ H3 => ∃ (d : Int) (y3 : Option V) (c3 : Int), σ = [some (.ref g), some (.int b), some (.int d), y3] ∧ SameX g H H3 ∧ H3 g = some (.lst [.int x, .int y, .int c3]) ∧ c3 = c + i ∧ 0 ≤ d ∧ d < 2 ^ (32 * i) ∧ i ≤ 7)
        ⟨0, none, c, rfl, .refl _ _, hg, by simp, Int.le_refl _, by decide, by decide⟩ (fun _ _ _ _ _ => True.intro) (fun i v σ H3 H4 hi p yy => ?_) fun σ H3 p => ?_
      · obtain ⟨d, y3, c3, rfl, s3, g3, ec, d0, d1, i7⟩ := p
        obtain ⟨rfl, rfl⟩ := yy
        have i6 : i ≤ 6 := by omega
        have u1 : (upd H4 g (.lst [.int x, .int y, .int (c3 + 1)])) g = some (.lst [.int x, .int y, .int (c3 + 1)]) := upd_same
        refine ⟨_, rfl, g, _, 2, .int c3, rfl, rfl, .inl (.inl g3), atI_nat (j := 2) rfl, _, _, rfl, rfl, _, rfl, g, _, 2, 2, rfl, rfl, g3, rfl, ?_⟩
        have ad : d.natAbs < 2 ^ (32 * i + 1) := ab d0 (Int.lt_of_lt_of_le d1 (by rw [Int.pow_succ]; have := pow_ge1 (32 * i); omega))
        refine ⟨_, rfl, d, _, rfl, rfl, wide_mul ad (show ((2147483587 : Int)).natAbs < 2 ^ 100 by decide) (by omega) (by decide) (by omega), ?_⟩
        refine ⟨_, rfl, g, _, 1, .int y, rfl, rfl, .inl (.inl u1), atI_nat (j := 1) rfl, _, rfl, g, _, 2, .int (c3 + 1), rfl, rfl, .inl (.inl u1), atI_nat (j := 2) rfl, y, c3 + 1, rfl, y0, y1, by omega, by omega, fun r r0 r1 => ⟨_, _, rfl, rfl, ?_⟩⟩
        refine ⟨_, _, c3 + 1, rfl, fun z o nz e => by rw [upd_ne nz]; exact s3 z o nz e, u1, by omega, by have : 0 ≤ d * 2147483587 := Int.mul_nonneg d0 (by decide); omega, ?_, by omega⟩
        rw [pow32]
        have := pow_ge1 (32 * i)
        omega
      · obtain ⟨d, y3, c3, rfl, s3, g3, ec, d0, d1, i7⟩ := p
        refine ⟨_, rfl, .inl ⟨d, rfl, _, rfl, d, b, rfl, rfl, by omega, ?_⟩⟩
        exact q _ _ s3 ⟨x, y, c3, g3, x0, y0, y1, by omega, by omega⟩ (fm0 (by omega)) (fm1 (by omega))
def sp_cell (K : PySem.W.Frag) : Sp := fun vs H Q _ => ∃ (a : Addr) (ns : List Int) (i : Nat), vs = [.ref a, .int i] ∧ SqL K H a (ns.map V.int) ∧ ∀ (r : Int) H', Same H H' → Q (.int r) H'
theorem c_law_cell (T : Txt K mg C) : C8.Cal P w K mg base 1 "_law_cell" (sp_cell K) [] := by
  refine calF T.d_law_cell sc_law_cell (fun vs H Q E h => ?_) (fun f cdv A outer s H vs Q E hr h => ?_)
  · obtain ⟨_, _, _, rfl, _⟩ := h; rfl
  · obtain ⟨a, ns, i, rfl, ha, q⟩ := h
    refine ⟨_, (pss_cons (ps_if (pt_cmpR op_lt (pv 1) (pe_callB call_len_seq (by rfl) T.m_len (by decide +kernel) (pa_cons (pv 0) pa_nil)) (nomark _))
    (pss_one (ps_ret (pe_ix ix_list (pv 0) (pv 1) (fun _ _ => rfl))))
    pss_nil)
    (pss_one (ps_ret (pe_op op_modN (pe_callB (cr_sum rfl) (by rfl) T.m_sum (by decide +kernel) (pa_cons (pe_slice sl_list (pv 0) po_none (po_some pe_int)) pa_nil)) pe_int)))), ?_⟩
    refine ⟨_, rfl, _, rfl, a, _, rfl, .inl ha, _, _, rfl, rfl, _, rfl, ite2 (fun e => ?_) (fun e => ?_)⟩
    · have e' := of_decide_eq_true e
      rw [List.length_map] at e'
      have hi : i < ns.length := by omega
      refine ⟨_, rfl, _, rfl, a, _, i, .int ns[i], rfl, rfl, ha, atI_nat ?_, q _ H (Same.refl _)⟩
      rw [List.getElem?_map, List.getElem?_eq_getElem hi]
      rfl
    · refine ⟨_, rfl, 1, rfl, a, _, rfl, ha, fun p hp => ?_⟩
      refine ⟨p, ns.take 1, rfl, .inl (.inl ?_), _, _, rfl, rfl, (by decide : (1000003 : Int) ≠ 0), q _ _ (sameNew hp)⟩
      rw [upd_same, show ((1 : Int)) = ((1 : Nat) : Int) from rfl, cutV_take, List.map_take]
def sp_generator (K : PySem.W.Frag) : Sp := fun vs H Q _ => ∃ (a : Addr) (ns : List Int) (i : Nat), vs = [.ref a, .int i] ∧ SqL K H a (ns.map V.int) ∧ i ≤ 10 ∧ ∀ g H1 H', Same H H1 → H1 g = none → Same H1 H' → Gn 100000 H' g → Q (.ref g) H'
theorem c_law_generator (T : Txt K mg C) : C8.Cal P w K mg base 2 "_law_generator" (sp_generator K) [] := by
  refine calF T.d_law_generator sc_law_generator (fun vs H Q E h => ?_) (fun f cdv A outer s H vs Q E hr h => ?_)
  · obtain ⟨_, _, _, rfl, _⟩ := h; rfl
  · obtain ⟨a, ns, i, rfl, ha, hi, q⟩ := h
    refine ⟨_, (pss_cons (ps_set (i := 2) sc_law_generator.nd rfl (Or.inl rfl) (C8.pe_c (c_law_cell T) hr (by decide) (by rfl) (pa_cons (pv 0) (pa_cons (pv 1) pa_nil))))
    (pss_one (ps_ret (pe_lst (pa_cons (pe_op op_modN (pe_callTy call_int1 (by rfl) T.m_int (by decide +kernel) (pa_cons (pe_callB (call_max2 rfl) (by rfl) T.m_max (by decide +kernel) (pa_cons (pe_op op_sub (pv 2) (pe_op op_powB pe_int pe_int)) (pa_cons pe_int pa_nil))) pa_nil)) (pe_op op_powB (pe_op op_powB pe_int pe_int) pe_int)) (pa_cons (pe_op op_modN (pe_callTy call_int1 (by rfl) T.m_int (by decide +kernel) (pa_cons (pv 2) pa_nil)) pe_int) (pa_cons (pe_op op_mulW pe_int (pv 1)) pa_nil))))))), ?_⟩
    refine ⟨_, rfl, _, rfl, a, ns, i, rfl, ha, fun r H1 s1 => ?_⟩
    refine ⟨_, rfl, _, _, rfl, rfl, ⟨by decide, by decide⟩, _, _, rfl, rfl, _, _, rfl, .inl ⟨_, rfl, _, _, rfl, rfl, ⟨by decide, by decide⟩, _, _, rfl, rfl, ⟨by decide, by decide⟩, _, _, rfl, rfl, (by decide : ((10 : Int) ^ Int.toNat 60) ^ Int.toNat 10 ≠ 0), ?_⟩⟩
    refine ⟨_, rfl, .inl ⟨_, rfl, _, _, rfl, rfl, (by decide : (2147483647 : Int) ≠ 0), ?_⟩⟩
    refine ⟨_, rfl, _, _, rfl, rfl, wide_mul (show ((1000 : Int)).natAbs < 2 ^ 100 by decide) (show ((i : Int)).natAbs < 2 ^ 100 by omega) (by decide) (by decide) (by decide), by show 3 ≤ sizeLine; decide, fun g hg => ?_⟩
    refine q g H1 _ s1 hg (sameNew hg) ⟨_, _, _, upd_same, fm0 (by decide), fm0 (by decide), Int.lt_trans (fm1 (by decide)) (by decide), by omega, by omega⟩
end
end K13

set_option Elab.async false
set_option linter.all false
set_option maxRecDepth 100000
set_option maxHeartbeats 4000000
namespace K13
open PySem PySem.Spec PyProof.Rows L2 CK SX NM
/-- a comprehension over a range that draws: what its items are is told by Pz -/
theorem lcP_draw {lo : Int} {g : Addr} {n cnt j : Nat} (Pz : V → Prop) {te : TE} {vs : List Nat} {σ : L2.St} {H1 : Hp} {D : Addr} {Qd : Hp → Prop} (hc : cnt < sizeLine) (hD : H1 D = none) (hg : Gn (n + cnt) H1 g)
    (hs : ∀ (i : Nat) (H : Hp) (R : VK), i < cnt → SameX g H1 H → Gn (n + (cnt - (i + 1)) + 1) H g → (∀ (r : V) H', SameX g H H' → Gn (n + (cnt - (i + 1))) H' g → Pz r → R r H') →
      wipe ((wipe σ vs).set j (some (.int (lo + i)))) vs = wipe σ vs ∧ te ((wipe σ vs).set j (some (.int (lo + i)))) H R)
    (hd : ∀ (H : Hp) (ns : List V), SameX g H1 H → Gn n H g → H D = some (.lst ns) → ns.length = cnt → (∀ x ∈ ns, Pz x) → Qd H) :
    ∃ W : Nat → Nat → Hp → Prop, (∃ m, W 0 m (L2.upd H1 D (.lst []))) ∧ ∀ i m H, W i m H →
      ((Itr lo cnt).stop i H ∧ Qd H) ∨ ((Itr lo cnt).go i H ∧ ∃ Nx : Hp → Prop, (∀ H', Nx H' → ∃ m', m' < m ∧ W (i + 1) m' H') ∧ ∀ x H', (Itr lo cnt).yld i H x H' → gName j x (wipe σ vs) H' fun σ2 H2 => wipe σ2 vs = wipe σ vs ∧ tYes σ2 H2 fun b H3 =>
        if b = true then te σ2 H3 fun y H4 => ∃ acc, H4 D = some (.lst acc) ∧ acc.length < sizeLine ∧ Nx (L2.upd H4 D (.lst (acc ++ [y]))) else Nx H3) := by
  have hDg := hg.ne hD
  refine lc_range (fun i H => SameX g H1 H ∧ Gn (n + (cnt - i)) H g ∧ i ≤ cnt ∧ ∃ ns : List V, H D = some (.lst ns) ∧ ns.length = i ∧ ∀ x ∈ ns, Pz x)
    ⟨sameX_new hD, hg.upd hDg, Nat.zero_le _, [], upd_same, rfl, fun x h => absurd h List.not_mem_nil⟩ (fun i H hi p => ?_) fun H p => ?_
  · obtain ⟨s, G, _, ns, hL, hl, hb⟩ := p
    have G1 : Gn (n + (cnt - (i + 1)) + 1) H g := by
      have e : n + (cnt - (i + 1)) + 1 = n + (cnt - i) := by omega
      rw [e]
      exact G
    refine hs i H _ hi s G1 fun r H' s' G' h0 => ⟨_, s' D _ hDg hL, by omega, (s.trans s').upd2 hD, G'.upd hDg, hi, ns ++ [r], upd_same, ?_, fun x hx => ?_⟩
    · rw [List.length_append, hl]
      rfl
    · rcases List.mem_append.mp hx with z | z
      · exact hb x z
      · rw [List.mem_singleton.mp z]
        exact h0
  · obtain ⟨s, G, _, ns, hL, hl, hb⟩ := p
    rw [Nat.sub_self] at G
    exact hd H ns s G hL hl hb
theorem join_one : ∀ cs : List Nat, TL.joinL [] (cs.map fun c => [c]) = cs
  | [] => rfl
  | [c] => rfl
  | c :: d :: r => by
    show [c] ++ ([] ++ TL.joinL [] ((d :: r).map fun c => [c])) = _
    rw [join_one (d :: r)]
    rfl
theorem empty_S : (Str.ofString "" : Str) = S [] := by decide +kernel
theorem join_S1 (cs : List Nat) : Txt.join (Str.ofString "") (cs.map fun c => S [c]) = S cs := by
  rw [empty_S]
  have := join_S [] (cs.map fun c => [c])
  rw [List.map_map] at this
  rw [show (cs.map fun c => S [c]) = cs.map (S ∘ fun c => [c]) from rfl, this, join_one]
theorem ones_S : ∀ {vs : List V}, (∀ v ∈ vs, ∃ c, v = V.str (S [c]) ∧ 97 ≤ c ∧ c ≤ 122) → ∃ cs : List Nat, vs = (cs.map fun c => S [c]).map V.str ∧ Low cs ∧ cs.length = vs.length
  | [], _ => ⟨[], rfl, fun c h => absurd h List.not_mem_nil, rfl⟩
  | v :: vs, h => by
    obtain ⟨c, rfl, hc⟩ := h v List.mem_cons_self
    obtain ⟨cs, rfl, lw, hl⟩ := ones_S fun u hu => h u (List.mem_cons_of_mem _ hu)
    refine ⟨c :: cs, rfl, fun d hd => ?_, by simp⟩
    rcases List.mem_cons.mp hd with z | z
    · rw [z]; exact hc
    · exact lw d z

theorem seq_nat {k n : Nat} (h : k < n) : seqIndex? (k : Int) n = some k := by
  unfold seqIndex?
  have h1 : ¬ ((k : Int) < 0) := by omega
  have h2 : (k : Int) < n := by omega
  simp only [h1, if_false]
  rw [if_pos (by simp [h2])]
  rfl
theorem map_erase {α β : Type} (f : α → β) : ∀ (l : List α) (k : Nat), (l.map f).eraseIdx k = (l.eraseIdx k).map f
  | [], _ => by simp
  | a :: l, 0 => by simp
  | a :: l, k + 1 => by
    rw [List.map_cons, List.eraseIdx_cons_succ, List.eraseIdx_cons_succ, List.map_cons, map_erase f l k]
theorem abc_S : (Str.ofString "abcdefghijklmnopqrstuvwxyz" : Str) = S (List.range' 97 26) := by decide +kernel
theorem perm_erase : ∀ {zs : List Nat} {k c : Nat}, zs[k]? = some c → List.Perm (c :: zs.eraseIdx k) zs
  | [], _, _, h => by simp at h
  | a :: l, 0, c, h => by
    cases h
    exact List.Perm.refl _
  | a :: l, k + 1, c, h => by
    rw [List.eraseIdx_cons_succ]
    exact (List.Perm.swap a c _).trans ((perm_erase (zs := l) (k := k) h).cons a)
theorem nodup_move {zs cs : List Nat} {k c : Nat} (hk : zs[k]? = some c) (h : (zs ++ cs).Nodup) : (zs.eraseIdx k ++ (cs ++ [c])).Nodup := by
  have p1 := perm_erase hk
  have p2 : List.Perm (zs.eraseIdx k ++ (cs ++ [c])) (zs ++ cs) := by
    refine List.Perm.trans ?_ (p1.append_right cs)
    rw [← List.append_assoc]
    refine List.Perm.trans (List.perm_append_comm) ?_
    exact List.Perm.refl _
  exact p2.nodup_iff.mpr h
theorem low_abc : Low (List.range' 97 26) := fun c hc => by
  rw [List.mem_range'] at hc
  obtain ⟨i, h1, h2⟩ := hc
  omega
theorem low_erase {zs : List Nat} (h : Low zs) (k : Nat) : Low (zs.eraseIdx k) := fun c hc => h c (List.mem_of_mem_eraseIdx hc)
theorem get_one {cs : List Nat} {i : Nat} {v : V} (h : (cs.map fun c => V.str (S [c]))[i]? = some v) : ∃ c, cs[i]? = some c ∧ v = V.str (S [c]) := by
  rw [List.getElem?_map] at h
  cases e : cs[i]? with
  | none => rw [e] at h; cases h
  | some c =>
    rw [e] at h
    exact ⟨c, rfl, (Option.some.inj h).symm⟩
theorem sum_ones (l : List Nat) : ((l.map fun c => S [c]).map fun x => x.length).sum = l.length := by
  induction l with
  | nil => rfl
  | cons c r ih => rw [List.map_cons, List.map_cons, List.sum_cons, ih, S_len]; simp; omega
theorem len_empty : (Str.ofString "").length = 0 := by decide +kernel
theorem nats_of : ∀ {ns : List Int}, (∀ z ∈ ns, 0 ≤ z) → ns.map V.int = (ns.map Int.toNat).map fun k : Nat => V.int (k : Nat)
  | [], _ => rfl
  | z :: r, h => by
    have h0 := h z List.mem_cons_self
    rw [List.map_cons, List.map_cons, List.map_cons, nats_of fun y hy => h y (List.mem_cons_of_mem _ hy)]
    congr 2
    omega
section
variable {P : Program} {w : World} {K : PySem.W.Frag} {mg : Str → Option Value} {base : Heap} {C : Addr}
def sp_letters : Sp := fun vs H Q _ => ∃ (g : Addr) (n : Nat), vs = [.ref g] ∧ Gn (n + 3) H g ∧ ∀ cs H', SameX g H H' → Gn n H' g → cs.length = 3 → Low cs → cs.Nodup → Q (.str (S cs)) H'
theorem c_law_letters (T : Txt K mg C) : C8.Cal P w K mg base 3 "_law_letters" sp_letters [] := by
  refine calF T.d_law_letters sc_law_letters (fun vs H Q E h => ?_) (fun f cdv A outer s H vs Q E hr h => ?_)
  · obtain ⟨_, _, rfl, _⟩ := h; rfl
  · obtain ⟨g, n, rfl, G, q⟩ := h
    refine ⟨_, (pss_cons (ps_set (i := 1) sc_law_letters.nd rfl (Or.inr rfl) (pe_callTy (call_listS rfl) (by rfl) T.m_list (by decide +kernel) (pa_cons pe_str pa_nil)))
    (pss_one (ps_ret (pe_join pe_str (pe_lc (own := [("_law_turn", 2)]) (by rfl) sc_law_letters.nd (pi_range1 (by rfl) T.m_range (pa_cons pe_int pa_nil)) (blkOk_by (N := ["_law_generator_here", "_law_left", "_law_turn"]) (sc := C8.fnScope (topS 50)) (own := [("_law_turn", 2)]) (by decide +kernel)) (fun _ _ _ _ _ => (pg_name (i := 2) sc_law_letters.nd rfl (Or.inl rfl))) (fun _ _ _ _ _ => pts_nil) (fun _ _ _ _ _ => (pe_bmB (K := K) rfl PySem.F.plainAttrs_list PySem.F.slot_list_pop PySem.F.type_list_pop mt_popAt (pv 1) (pa_cons (C8.pe_c (c_law_random T) hr (by decide) (by rfl) (pa_cons (pv 0) (pa_cons (pe_callB call_lenH (by rfl) T.m_len (by decide +kernel) (pa_cons (pv 1) pa_nil)) pa_nil))) pa_nil)))))))), ?_⟩
    refine ⟨List.range' 97 26, congrArg (fun z => [V.str z]) abc_S, by decide, fun L hL => ?_⟩
    have Lg := G.ne hL
    have s0 := sameNew (o := .lst ((List.range' 97 26).map fun c => V.str (S [c]))) hL
    refine ⟨⟨_, rfl⟩, 3, rfl, by decide, by decide, fun D hD => ?_⟩
    have G1 : Gn (n + 3) (upd H L (.lst ((List.range' 97 26).map fun c => V.str (S [c])))) g := G.upd Lg
    have Dg := G1.ne hD
    have DL : D ≠ L := fun z => by rw [z, upd_same] at hD; cases hD
    refine lc_range (fun i H2 => (∀ b o, b ≠ g → b ≠ L → (upd H L (.lst ((List.range' 97 26).map fun c => V.str (S [c])))) b = some o → H2 b = some o) ∧ Gn (n + (3 - i)) H2 g ∧ i ≤ 3 ∧ ∃ zs cs : List Nat, (H2 L = some (.lst (zs.map fun c => V.str (S [c]))) ∧ zs.length = 26 - i ∧ Low zs) ∧ H2 D = some (.lst (cs.map fun c => V.str (S [c]))) ∧ cs.length = i ∧ Low cs ∧ (zs ++ cs).Nodup)
      ⟨fun b o _ _ e => sameNew hD _ _ e, G1.upd Dg, by decide, List.range' 97 26, [], ⟨sameNew hD _ _ upd_same, by simp, low_abc⟩, upd_same, rfl, low_nil, by rw [List.append_nil]; exact List.nodup_range'⟩ (fun i H2 hi p => ?_) fun H2 p => ?_
    · obtain ⟨s2, G2, _, zs, cs, ⟨hL2, lz, lowz⟩, hD2, lc, lowc, nd⟩ := p
      have e3 : n + (3 - i) = n + (3 - (i + 1)) + 1 := by omega
      rw [e3] at G2
      have lk : (zs.map fun c => V.str (S [c])).length = 26 - i := by rw [List.length_map, lz]
      refine ⟨rfl, _, rfl, .inl ⟨rfl, _, .inl (.inl hL2)⟩, _, rfl, _, rfl, L, _, rfl, hL2, g, _, _, rfl, G2, by rw [lk]; omega, by rw [lk]; omega, fun r H3 s3 G3 r0 r1 => ?_⟩
      rw [lk] at r1
      have hL3 := s3 _ _ Lg hL2
      obtain ⟨k, rfl⟩ : ∃ k : Nat, r = k := ⟨r.toNat, by omega⟩
      have hk : k < zs.length := by omega
      have hz := List.getElem?_eq_getElem hk
      have hc := lowz _ (List.getElem_mem hk)
      generalize zs[k] = c at hz hc
      refine ⟨L, _, k, k, .str (S [c]), rfl, rfl, hL3, by omega, by omega, ?_, by rw [List.getElem?_map, hz]; rfl, ?_⟩
      · rw [lk]
        exact seq_nat (by omega)
      · refine ⟨_, by rw [upd_ne DL]; exact s3 _ _ Dg hD2, by rw [List.length_map, lc, sizeLine_eq]; omega, fun b o hb hbL eb => ?_, (G3.upd Lg).upd Dg, by omega, zs.eraseIdx k, cs ++ [c], ⟨?_, ?_, low_erase lowz k⟩, ?_, by rw [List.length_append, lc]; rfl, (low_app lowc fun d hd => by rw [List.mem_singleton.mp hd]; exact hc), nodup_move hz nd⟩
        · have hbD : b ≠ D := fun z => by rw [z, hD] at eb; cases eb
          rw [upd_ne hbD, upd_ne hbL]
          exact s3 _ _ hb (s2 _ _ hb hbL eb)
        · rw [upd_ne (Ne.symm DL), upd_same, map_erase]
        · rw [List.length_eraseIdx, if_pos hk, lz]
          omega
        · rw [upd_same, List.map_append]
          rfl
    · obtain ⟨s2, G2, _, zs, cs, ⟨hL2, lz, lowz⟩, hD2, lc, lowc, nd⟩ := p
      refine ⟨Str.ofString "", D, cs.map fun c => S [c], rfl, rfl, .inl (.inl (.inl (by rw [hD2, List.map_map]; rfl))), by rw [sum_ones, List.length_map, len_empty, lc]; decide, ?_⟩
      rw [join_S1]
      refine q cs H2 (fun b o hb eb => s2 _ _ hb (fun z => by rw [z, hL] at eb; cases eb) (s0 _ _ eb)) G2 lc lowc (List.nodup_append.mp nd).2.1
def sp_word : Sp := fun vs H Q _ => ∃ (g : Addr) (cs : List Nat) (n lo hi : Nat), vs = [.ref g, .str (S cs), .int lo, .int hi] ∧ cs ≠ [] ∧ cs.length ≤ 26 ∧ Low cs ∧ Gn (n + 10) H g ∧ lo ≤ hi ∧ hi ≤ 4 ∧
  ∀ (w : List Nat) H', SameX g H H' → Gn n H' g → lo ≤ w.length → w.length ≤ hi → Low w → Q (.str (S w)) H'
theorem c_law_word (T : Txt K mg C) : C8.Cal P w K mg base 3 "_law_word" sp_word [] := by
  refine calF T.d_law_word sc_law_word (fun vs H Q E h => ?_) (fun f cdv A outer s H vs Q E hr h => ?_)
  · obtain ⟨_, _, _, _, _, rfl, _⟩ := h; rfl
  · obtain ⟨g, cs, n, lo, hi, rfl, ne, l26, lowc, G, h1, h2, q⟩ := h
    have n0 := List.length_pos_iff.mpr ne
    refine ⟨_, (pss_cons (ps_set (i := 4) sc_law_word.nd rfl (Or.inl rfl) (pe_op op_add (pv 2) (C8.pe_c (c_law_random T) hr (by decide) (by rfl) (pa_cons (pv 0) (pa_cons (pe_op op_add (pe_op op_sub (pv 3) (pv 2)) pe_int) pa_nil)))))
    (pss_one (ps_ret (pe_join pe_str (pe_lc (own := [("_law_turn", 5)]) (by rfl) sc_law_word.nd (pi_range1 (by rfl) T.m_range (pa_cons (pv 4) pa_nil)) (blkOk_by (N := ["_law_generator_here", "_law_signs", "_law_least", "_law_most", "_law_many", "_law_turn"]) (sc := C8.fnScope (topS 51)) (own := [("_law_turn", 5)]) (by decide +kernel)) (fun _ _ _ _ _ => (pg_name (i := 5) sc_law_word.nd rfl (Or.inl rfl))) (fun _ _ _ _ _ => pts_nil) (fun _ _ _ _ _ => (pe_ix ix_str (pv 1) (C8.pe_c (c_law_random T) hr (by decide) (by rfl) (pa_cons (pv 0) (pa_cons (pe_callB call_len_str (by rfl) T.m_len (by decide +kernel) (pa_cons (pv 1) pa_nil)) pa_nil))) (fun _ _ => rfl)))))))), ?_⟩
    refine ⟨_, rfl, _, rfl, _, rfl, _, rfl, _, _, rfl, rfl, _, _, rfl, rfl, g, _, n + 9, rfl, G, by omega, by omega, fun r H1 s1 G1 r0 r1 => ?_⟩
    refine ⟨_, _, rfl, rfl, ?_⟩
    refine ⟨⟨_, rfl⟩, _, rfl, (lo : Int) + r, rfl, by omega, by omega, fun D hD => ?_⟩
    refine lcP_draw (lo := 0) (g := g) (n := n) (cnt := ((lo : Int) + r).toNat) (fun v => ∃ c, v = V.str (S [c]) ∧ 97 ≤ c ∧ c ≤ 122) (small1000 (by omega)) hD (G1.le (by omega)) (fun i H2 R hi2 s2 G2 q' => ?_) fun H3 ns s3 G3 hL hl hP => ?_
    · refine ⟨rfl, _, rfl, _, rfl, _, rfl, S cs, rfl, len_line (by omega), g, _, _, rfl, G2, by rw [S_len]; omega, by rw [S_len]; omega, fun r3 H3 s3 G3 r30 r31 => ?_⟩
      rw [S_len] at r31
      obtain ⟨k, rfl⟩ : ∃ k : Nat, r3 = k := ⟨r3.toNat, by omega⟩
      have hk : k < cs.length := by omega
      have hz := List.getElem?_eq_getElem hk
      have hc := lowc _ (List.getElem_mem hk)
      generalize cs[k] = c at hz hc
      exact ⟨S cs, _, c, rfl, rfl, len_line (by omega), atI_nat (xs := cs) hz, q' _ H3 s3 G3 ⟨c, rfl, hc⟩⟩
    · obtain ⟨ws, rfl, lw, lw2⟩ := ones_S hP
      refine ⟨Str.ofString "", D, ws.map fun c => S [c], rfl, rfl, .inl (.inl (.inl hL)), by rw [sum_ones, List.length_map, len_empty]; omega, ?_⟩
      rw [join_S1]
      exact q ws H3 (s1.trans s3) G3 (by omega) (by omega) lw
/-- numbers up to most -/
def Up (most : Nat) (f : List Nat) : Prop := ∀ n ∈ f, n ≤ most
def sp_law_form : Sp := fun vs H Q _ => ∃ (g : Addr) (m most n : Nat), vs = [.ref g, .int m, .int most] ∧ Gn (n + (m + 1)) H g ∧ m ≤ 3 ∧ most < 2 ^ 100 ∧
  ∀ p f H', SameX g H H' → Gn n H' g → FT H' p f → f.length = m + 1 → Up most f → Q (.ref p) H'
theorem c_law_form (T : Txt K mg C) : C8.Cal P w K mg base 3 "_law_form" sp_law_form [] := by
  refine calF T.d_law_form sc_law_form (fun vs H Q E h => ?_) (fun f cdv A outer s H vs Q E hr h => ?_)
  · obtain ⟨_, _, _, _, rfl, _⟩ := h; rfl
  · obtain ⟨g, m, most, n, rfl, G, hm, h1, q⟩ := h
    refine ⟨_, (pss_one (ps_ret (pe_callTy call_tupL (by rfl) T.m_tuple (by decide +kernel) (pa_cons (pe_lc (own := [("_law_turn", 3)]) (by rfl) sc_law_form.nd (pi_range1 (by rfl) T.m_range (pa_cons (pe_op op_add (pv 1) pe_int) pa_nil)) (blkOk_by (N := ["_law_generator_here", "_law_many", "_law_most", "_law_turn"]) (sc := C8.fnScope (topS 52)) (own := [("_law_turn", 3)]) (by decide +kernel)) (fun _ _ _ _ _ => (pg_name (i := 3) sc_law_form.nd rfl (Or.inl rfl))) (fun _ _ _ _ _ => pts_nil) (fun _ _ _ _ _ => (C8.pe_c (c_law_random T) hr (by decide) (by rfl) (pa_cons (pv 0) (pa_cons (pe_op op_add (pv 2) pe_int) pa_nil))))) pa_nil)))), ?_⟩
    refine ⟨_, rfl, _, _, rfl, rfl, _, rfl, by omega, by omega, ?_⟩
    refine fun D hD => lcD_draw (cnt := m + 1) (n := n) (g := g) (most := (most : Int)) (small5 (by omega)) hD G (fun i H3 R hi s3 G3 q' => ?_) fun H3 ns s3 G3 hL hl hb => ?_
    · exact ⟨rfl, _, rfl, _, rfl, most, 1, rfl, rfl, g, most + 1, _, rfl, G3, by omega, by omega, fun r H4 s4 G4 r0 r1 => q' r H4 s4 G4 r0 (by omega)⟩
    · refine ⟨D, _, rfl, hL, fun l H4 s4 h4 => q l (ns.map Int.toNat) H4 (s3.trans (.of s4)) (G3.same s4) ?_ (by rw [List.length_map, hl]) fun x hx => ?_⟩
      · unfold FT
        rw [h4, nats_of fun z hz => (hb z hz).1]
      · obtain ⟨z, hz, rfl⟩ := List.mem_map.mp hx
        have := hb z hz
        omega
def sp_law_plain : Sp := fun vs H Q _ => ∃ (m k : Nat), vs = [.int m, .int k] ∧ m ≤ 3 ∧ ∀ p H', Same H H' → FT H' p (k :: List.replicate m 0) → Q (.ref p) H'
theorem c_law_plain (T : Txt K mg C) : C8.Cal P w K mg base 1 "_law_plain" sp_law_plain [] := by
  refine calF T.d_law_plain sc_law_plain (fun vs H Q E h => ?_) (fun f cdv A outer s H vs Q E hr h => ?_)
  · obtain ⟨_, _, rfl, _⟩ := h; rfl
  · obtain ⟨m, k, rfl, hm, q⟩ := h
    refine ⟨_, (pss_one (ps_ret (pe_op op_catS (pe_tup (pa_cons (pv 1) pa_nil)) (pe_op op_repOne (pe_tup (pa_cons pe_int pa_nil)) (pv 0))))), ?_⟩
    refine ⟨_, rfl, by show 1 ≤ sizeLine; decide, fun t1 n1 => ⟨by decide, fun t2 n2 => ⟨_, rfl, t2, _, _, rfl, rfl, upd_same, by omega, by omega, fun p H' s hp => ?_⟩⟩⟩
    have e1 : H' t1 = some (.tup [.int k]) := s _ _ (by rw [upd_ne (ne_of_none upd_same n2)]; exact upd_same)
    refine ⟨t1, p, _, _, rfl, rfl, e1, hp, by simp; omega, fun p2 H2 s2 h2 => q p2 H2 (((sameNew n1).trans (sameNew n2)).trans (s.trans s2)) ?_⟩
    unfold FT
    rw [h2]
    simp
end
end K13

set_option Elab.async false
set_option linter.all false
set_option maxRecDepth 100000
set_option maxHeartbeats 4000000
namespace K13
open PySem PySem.Spec PyProof.Rows L2 CK SX NM
theorem low_rotpart {b : List Nat} (h : Low b) (i j : Nat) : Low (((b ++ b).drop i).take j) := low_take (low_drop (low_app h h) _) _
theorem up_plain {m k B : Nat} (h : k ≤ B) : Up B (k :: List.replicate m 0) := fun x hx => by
  rcases List.mem_cons.mp hx with z | z
  · omega
  · rw [List.eq_of_mem_replicate z]
    exact Nat.zero_le _
theorem PC.sameX {g : Addr} {H H' : Hp} {a : Addr} {p : Pn} {n : Nat} (h : PC H a p) (G : Gn n H g) (s : SameX g H H') : PC H' a p := h.mono fun b xs e => s.tup G e
theorem FT.sameX {g : Addr} {H H' : Hp} {a : Addr} {f : F} {n : Nat} (h : FT H a f) (G : Gn n H g) (s : SameX g H H') : FT H' a f := s.tup G h
section
variable {P : Program} {w : World} {K : PySem.W.Frag} {mg : Str → Option Value} {base : Heap} {C : Addr}
def sp_law_piece : Sp := fun vs H Q _ => ∃ (g : Addr) (cs b : List Nat) (m most n : Nat), vs = [.ref g, .int m, .str (S cs), .str (S b), .int most] ∧ cs.length = 3 ∧ Low cs ∧ b ≠ [] ∧ b.length ≤ 3 ∧ Low b ∧ m ≤ 3 ∧ most ≤ 4 ∧ Gn (n + 50) H g ∧
  ∀ a p H', SameX g H H' → Gn n H' g → PC H' a p → p.2.length = m + 1 → p.1.length ≤ 12 → Low p.1 → Up 4 p.2 → Q (.ref a) H'
theorem c_law_piece (T : Txt K mg C) : C8.Cal P w K mg base 4 "_law_piece" sp_law_piece [] := by
  refine calF T.d_law_piece sc_law_piece (fun vs H Q E h => ?_) (fun f0 cdv A outer s H vs Q E hr h => ?_)
  · obtain ⟨_, _, _, _, _, _, rfl, _⟩ := h; rfl
  · obtain ⟨g, cs, b, m, most, n, rfl, lcs, lowc, bne, lb, lowb, hm, hmost, G, q⟩ := h
    have b0 := List.length_pos_iff.mpr bne
    refine ⟨_, (pss_cons (ps_par (i := 5) (j := 6) (by rfl) sc_law_piece.nd rfl rfl (by decide) rfl rfl (pa_cons (C8.pe_c (c_law_random T) hr (by decide) (by rfl) (pa_cons (pv 0) (pa_cons pe_int pa_nil))) (pa_cons (C8.pe_c (c_law_random T) hr (by decide) (by rfl) (pa_cons (pv 0) (pa_cons pe_int pa_nil))) pa_nil)) (by rfl))
    (pss_cons (ps_set (i := 7) sc_law_piece.nd rfl (Or.inl rfl) (pe_slice C8.sl_txt (pe_op op_add_str (pv 3) (pv 3)) (po_some (pe_op op_modN (pe_callTy call_int1 (by rfl) T.m_int (by decide +kernel) (pa_cons (pv 6) pa_nil)) (pe_callB call_len_str (by rfl) T.m_len (by decide +kernel) (pa_cons (pv 3) pa_nil)))) (po_some (pe_op op_add (pe_op op_modN (pe_callTy call_int1 (by rfl) T.m_int (by decide +kernel) (pa_cons (pv 6) pa_nil)) (pe_callB call_len_str (by rfl) T.m_len (by decide +kernel) (pa_cons (pv 3) pa_nil))) (pe_callB call_len_str (by rfl) T.m_len (by decide +kernel) (pa_cons (pv 3) pa_nil))))))
    (pss_cons (ps_if (pt_cmpR op_eq (pv 5) pe_int (nomark _))
    (pss_one (ps_ret (pe_tup (pa_cons (C8.pe_c (c_law_word T) hr (by decide) (by rfl) (pa_cons (pv 0) (pa_cons (pv 2) (pa_cons pe_int (pa_cons pe_int pa_nil))))) (pa_cons (C8.pe_c (c_law_plain T) hr (by decide) (by rfl) (pa_cons (pv 1) (pa_cons (C8.pe_c (c_law_random T) hr (by decide) (by rfl) (pa_cons (pv 0) (pa_cons pe_int pa_nil))) pa_nil))) pa_nil)))))
    pss_nil)
    (pss_cons (ps_if (pt_cmpR op_eq (pv 5) pe_int (nomark _))
    (pss_one (ps_ret (pe_tup (pa_cons (pe_op op_repS (pv 7) (pe_op op_add pe_int (pe_callTy call_int1 (by rfl) T.m_int (by decide +kernel) (pa_cons (pe_cmpR op_eq (pv 6) pe_int (nomark _)) pa_nil)))) (pa_cons (C8.pe_c (c_law_form T) hr (by decide) (by rfl) (pa_cons (pv 0) (pa_cons (pv 1) (pa_cons (pv 4) pa_nil)))) pa_nil)))))
    pss_nil)
    (pss_cons (ps_if (pt_cmpR op_eq (pv 5) pe_int (nomark _))
    (pss_one (ps_ret (pe_tup (pa_cons (pe_slice C8.sl_txt (pe_op op_repS (pv 7) pe_int) po_none (po_some (C8.pe_c (c_law_random T) hr (by decide) (by rfl) (pa_cons (pv 0) (pa_cons (pe_op op_add (pe_op op_mulW pe_int (pe_callB call_len_str (by rfl) T.m_len (by decide +kernel) (pa_cons (pv 3) pa_nil))) pe_int) pa_nil))))) (pa_cons (C8.pe_c (c_law_plain T) hr (by decide) (by rfl) (pa_cons (pv 1) (pa_cons pe_int pa_nil))) pa_nil)))))
    pss_nil)
    (pss_cons (ps_if (pt_cmpR op_eq (pv 5) pe_int (nomark _))
    (pss_one (ps_ret (pe_tup (pa_cons (pe_slice C8.sl_txt (pv 3) (po_some (pe_op op_sub (pe_callB call_len_str (by rfl) T.m_len (by decide +kernel) (pa_cons (pv 3) pa_nil)) pe_int)) po_none) (pa_cons (C8.pe_c (c_law_plain T) hr (by decide) (by rfl) (pa_cons (pv 1) (pa_cons pe_int pa_nil))) pa_nil)))))
    pss_nil)
    (pss_cons (ps_if (pt_cmpR op_eq (pv 5) pe_int (nomark _))
    (pss_one (ps_ret (pe_tup (pa_cons (pv 3) (pa_cons (pe_op op_catS (pe_tup (pa_cons pe_int pa_nil)) (pe_slice sl_drop (C8.pe_c (c_law_form T) hr (by decide) (by rfl) (pa_cons (pv 0) (pa_cons (pv 1) (pa_cons (pv 4) pa_nil)))) (po_some pe_int) po_none)) pa_nil)))))
    pss_nil)
    (pss_cons (ps_if (pt_cmpR op_eq (pv 5) pe_int (nomark _))
    (pss_one (ps_ret (pe_tup (pa_cons (pe_ix ix_str (pv 2) (C8.pe_c (c_law_random T) hr (by decide) (by rfl) (pa_cons (pv 0) (pa_cons pe_int pa_nil))) (fun _ _ => rfl)) (pa_cons (C8.pe_c (c_law_form T) hr (by decide) (by rfl) (pa_cons (pv 0) (pa_cons (pv 1) (pa_cons (pv 4) pa_nil)))) pa_nil)))))
    pss_nil)
    (pss_one (ps_ret (pe_tup (pa_cons (C8.pe_c (c_law_word T) hr (by decide) (by rfl) (pa_cons (pv 0) (pa_cons (pe_slice C8.sl_txt (pv 2) po_none (po_some pe_int)) (pa_cons pe_int (pa_cons pe_int pa_nil))))) (pa_cons (C8.pe_c (c_law_form T) hr (by decide) (by rfl) (pa_cons (pv 0) (pa_cons (pv 1) (pa_cons (pv 4) pa_nil)))) pa_nil))))))))))))), ?_⟩
    refine ⟨_, rfl, g, 8, n + 49, rfl, G, by decide, by decide, fun way H1 s1 G1 w0 w1 => ?_⟩
    refine ⟨_, rfl, g, 4, n + 48, rfl, G1, by decide, by decide, fun turn H2 s2 G2 t0 t1 => ⟨_, _, rfl, ?_⟩⟩
    obtain ⟨tn, rfl⟩ : ∃ tn : Nat, turn = tn := ⟨turn.toNat, by omega⟩
    obtain ⟨k, hk, hkl⟩ := fmodZ (tn : Int) (show b.length ≠ 0 by omega)
    have s12 := s1.trans s2
    have fin : ∀ {H' : Hp} {t fa : Addr} {z : List Nat} {f : F}, H' t = none → SameX g H H' → Gn n H' g → FT H' fa f → f.length = m + 1 → z.length ≤ 12 → Low z → Up 4 f → Q (.ref t) (upd H' t (.tup [.str (S z), .ref fa])) := fun {H' t fa z f} ht sx G' hf lf lz lw uf =>
      q t (z, f) _ (sx.trans (.of (sameNew ht))) (G'.same (sameNew ht)) ⟨fa, upd_same, sameNew ht _ _ hf⟩ lf lz lw uf
    -- the turned base
    refine ⟨_, rfl, _, rfl, _, _, rfl, rfl, by rw [S_len, sizeLine_eq]; omega, ?_⟩
    rw [S_cat]
    refine ⟨_, rfl, .inl ⟨_, rfl, _, rfl, S b, rfl, len_line (by omega), (tn : Int), b.length, rfl, congrArg (fun n : Nat => V.int n) (S_len b), by omega, k, congrArg V.int hk, ?_⟩⟩
    refine ⟨_, rfl, .inl ⟨_, rfl, _, rfl, S b, rfl, len_line (by omega), (tn : Int), b.length, rfl, congrArg (fun n : Nat => V.int n) (S_len b), by omega, ?_⟩⟩
    refine ⟨_, rfl, S b, rfl, len_line (by omega), k, b.length, congrArg V.int hk, congrArg (fun n : Nat => V.int n) (S_len b), ((k + b.length : Nat) : Int), congrArg V.int (by omega), S (b ++ b), rfl, len_line (by rw [List.length_append]; omega), ?_⟩
    rw [slice_mid (by omega) (by rw [List.length_append]; omega), show k + b.length - k = b.length by omega]
    have ltw : (((b ++ b).drop k).take b.length).length = b.length := by rw [List.length_take, List.length_drop, List.length_append]; omega
    have lowt := low_rotpart lowb k b.length
    generalize ((b ++ b).drop k).take b.length = tw at ltw lowt
    have upM : ∀ {f : F}, Up most f → Up 4 f := fun {f} uf x hx => by
      have := uf x hx
      omega
    have c2ne : cs.take 2 ≠ [] := fun z => by
      have := congrArg List.length z
      rw [List.length_take, List.length_nil] at this
      omega
    have csne : cs ≠ [] := fun z => by rw [z] at lcs; cases lcs
    refine ⟨_, rfl, rfl, _, rfl, ite2 (fun e => ?_) (fun e => ?_)⟩
    · refine ⟨_, rfl, _, rfl, g, cs, n + 38, 0, 4, rfl, csne, by omega, lowc, G2.le (by omega), by decide, by decide, fun w H3 s3 G3 _ w4 lw => ?_⟩
      refine ⟨_, rfl, _, rfl, g, 3, n + 37, rfl, G3.le (by omega), by decide, by decide, fun r H4 s4 G4 r0 r1 => ?_⟩
      obtain ⟨rn, rfl⟩ : ∃ rn : Nat, r = rn := ⟨r.toNat, by omega⟩
      exact ⟨m, rn, rfl, hm, fun p H5 s5 h5 => ⟨by show 2 ≤ sizeLine; decide, fun t ht => fin ht (s12.trans (s3.trans (s4.trans (.of s5)))) ((G4.same s5).le (by omega)) h5 (by simp) (by omega) lw (up_plain (by omega))⟩⟩
    · refine ⟨_, rfl, rfl, _, rfl, ite2 (fun e => ?_) (fun e => ?_)⟩
      · refine ⟨_, rfl, _, rfl, rfl, .inr ⟨_, rfl, _, _, rfl, rfl, tw, if tn = 3 then 2 else 1, rfl, congrArg V.int ?_, by split <;> omega, by omega, ?_⟩⟩
        · by_cases h3 : tn = 3
          · subst h3
            rfl
          · rw [if_neg h3, decide_eq_false (fun y => h3 (by have := V.int.inj y; omega))]
            rfl
        · have ll : (List.replicate (if tn = 3 then 2 else 1) tw).flatten.length ≤ 6 := by
            have := WM.pw_len tw (if tn = 3 then 2 else 1)
            unfold WM.pw at this
            rw [this]
            split <;> omega
          refine ⟨_, rfl, _, rfl, _, rfl, g, m, most, n, rfl, G2.le (by omega), hm, by omega, fun p f H' s' G' hf lf uf => ⟨by show 2 ≤ sizeLine; decide, fun t ht => fin ht (s12.trans s') G' hf lf (by omega) (low_pw lowt _) (upM uf)⟩⟩
      · refine ⟨_, rfl, rfl, _, rfl, ite2 (fun e => ?_) (fun e => ?_)⟩
        · have l4 : (List.replicate 4 tw).flatten.length = tw.length * 4 := WM.pw_len tw 4
          refine ⟨_, rfl, tw, 4, rfl, rfl, by decide, by omega, ?_⟩
          refine ⟨_, rfl, _, rfl, S b, rfl, len_line (by omega), _, _, rfl, rfl, wide_mul (a := 10) (b := 10) (by decide) (by rw [S_len]; omega) (by decide) (by decide) (by decide), _, _, rfl, rfl, g, _, n + 47, rfl, G2, by rw [S_len]; omega, by rw [S_len]; omega, fun r H3 s3 G3 r0 r1 => ?_⟩
          obtain ⟨rn, rfl⟩ : ∃ rn : Nat, r = rn := ⟨r.toNat, by omega⟩
          refine ⟨(rn : Int), rfl, S (List.replicate 4 tw).flatten, rfl, len_line (by omega), ?_⟩
          rw [SX.slice_to (by omega), Int.toNat_natCast]
          exact ⟨_, rfl, m, 1, rfl, hm, fun p H5 s5 h5 => ⟨by show 2 ≤ sizeLine; decide, fun t ht => fin ht (s12.trans (s3.trans (.of s5))) ((G3.same s5).le (by omega)) h5 (by simp) (by rw [List.length_take]; omega) (low_take (low_pw lowt 4) _) (up_plain (by omega))⟩⟩
        · refine ⟨_, rfl, rfl, _, rfl, ite2 (fun e => ?_) (fun e => ?_)⟩
          · refine ⟨_, rfl, _, rfl, S b, rfl, len_line (by omega), _, _, rfl, rfl, ((b.length - 1 : Nat) : Int), congrArg V.int (by rw [S_len]; omega), S b, rfl, len_line (by omega), ?_⟩
            rw [SX.slice_from (by omega), Int.toNat_natCast]
            exact ⟨_, rfl, m, 1, rfl, hm, fun p H5 s5 h5 => ⟨by show 2 ≤ sizeLine; decide, fun t ht => fin ht (s12.trans (.of s5)) ((G2.same s5).le (by omega)) h5 (by simp) (by rw [List.length_drop]; omega) (low_drop lowb _) (up_plain (by omega))⟩⟩
          · refine ⟨_, rfl, rfl, _, rfl, ite2 (fun e => ?_) (fun e => ?_)⟩
            · refine ⟨_, rfl, by show 1 ≤ sizeLine; decide, fun t1 n1 => ?_⟩
              have st1 := sameNew (o := .tup [V.int 0]) n1
              refine ⟨_, rfl, _, rfl, _, rfl, g, m, most, n, rfl, (G2.same st1).le (by omega), hm, by omega, fun p f H' s' G' hf lf uf => ?_⟩
              have sA := (SameX.of st1).trans s'
              refine ⟨1, rfl, p, _, 1, rfl, rfl, rfl, hf, fun p2 H4 s4 h4 => ?_⟩
              have lf4 : ((f.map fun n : Nat => V.int (n : Nat)).drop 1).length ≤ 4 := by rw [List.length_drop, List.length_map]; omega
              have e1 : H4 t1 = some (.tup [.int 0]) := s4 _ _ (s'.tup (G2.same st1) upd_same)
              refine ⟨t1, p2, _, _, rfl, rfl, e1, h4, Nat.le_trans (Nat.add_le_add_left lf4 1) (by decide), fun p5 H5 s5 h5 => ⟨by show 2 ≤ sizeLine; decide, fun t ht => ?_⟩⟩
              obtain ⟨x, f', rfl⟩ : ∃ x f', f = x :: f' := by
                cases f with
                | nil => simp at lf
                | cons x f' => exact ⟨x, f', rfl⟩
              refine fin (f := 0 :: f') ht (s12.trans (sA.trans (.of (s4.trans s5)))) ((G'.same s4).same s5) (by unfold FT; rw [h5]; rfl) (by simpa using lf) (by omega) lowb fun y hy => ?_
              rcases List.mem_cons.mp hy with z | z
              · omega
              · exact upM uf y (List.mem_cons_of_mem _ z)
            · refine ⟨_, rfl, rfl, _, rfl, ite2 (fun e => ?_) (fun e => ?_)⟩
              · refine ⟨_, rfl, _, rfl, g, 2, n + 47, rfl, G2, by decide, by decide, fun r H3 s3 G3 r0 r1 => ?_⟩
                obtain ⟨rn, rfl⟩ : ∃ rn : Nat, r = rn := ⟨r.toNat, by omega⟩
                have hk2 : rn < cs.length := by omega
                have hz := List.getElem?_eq_getElem hk2
                have hc := lowc _ (List.getElem_mem hk2)
                generalize cs[rn] = c at hz hc
                refine ⟨S cs, _, c, rfl, rfl, len_line (by omega), atI_nat (xs := cs) hz, ?_⟩
                exact ⟨_, rfl, _, rfl, _, rfl, g, m, most, n, rfl, G3.le (by omega), hm, by omega, fun p f H' s' G' hf lf uf => ⟨by show 2 ≤ sizeLine; decide, fun t ht => fin (z := [c]) ht (s12.trans (s3.trans s')) G' hf lf (by simp) (fun d hd => by rw [List.mem_singleton.mp hd]; exact hc) (upM uf)⟩⟩
              · refine ⟨_, rfl, _, rfl, 2, rfl, S cs, rfl, len_line (by omega), ?_⟩
                rw [SX.slice_to (by decide)]
                refine ⟨g, cs.take 2, n + 38, 1, 3, rfl, c2ne, by rw [List.length_take]; omega, low_take lowc _, G2.le (by omega), by decide, by decide, fun w H3 s3 G3 _ w4 lw => ?_⟩
                exact ⟨_, rfl, _, rfl, _, rfl, g, m, most, n, rfl, G3.le (by omega), hm, by omega, fun p f H' s' G' hf lf uf => ⟨by show 2 ≤ sizeLine; decide, fun t ht => fin ht (s12.trans (s3.trans s')) G' hf lf (by omega) lw (upM uf)⟩⟩
/-- a new list of pieces that grows while the generator runs -/
structure Grow (g : Addr) (H : Hp) (L : Addr) (H' : Hp) (ps : List Pn) : Prop where
  sx : SameX g H H'
  pl : PL H' L ps
  ne : L ≠ g
  new : H L = none
theorem Grow.go {g L : Addr} {H H' H2 : Hp} {ps : List Pn} {n : Nat} (h : Grow g H L H' ps) (G : Gn n H' g) (s : SameX g H' H2) : Grow g H L H2 ps := by
  obtain ⟨s1, ⟨vs, hl, hp⟩, lg, h0⟩ := h
  exact ⟨s1.trans s, ⟨vs, s _ _ lg hl, hp.mono fun a xs e => s.tup G e⟩, lg, h0⟩
/-- as they are drawn -/
def Dr (m : Nat) (ps : List Pn) : Prop := ∀ p ∈ ps, p.2.length = m + 1 ∧ p.1.length ≤ 12 ∧ Low p.1 ∧ Up 4 p.2
def sp_law_raw : Sp := fun vs H Q _ => ∃ (g : Addr) (cs : List Nat) (m cnt most n : Nat), vs = [.ref g, .int m, .str (S cs), .int cnt, .int most] ∧ cs.length = 3 ∧ Low cs ∧ m ≤ 3 ∧ most ≤ 4 ∧ cnt ≤ 7 ∧ Gn (n + 1000) H g ∧
  ∀ L ps H', Grow g H L H' ps → Gn n H' g → ps.length ≤ cnt → Dr m ps → Q (.ref L) H'
theorem c_law_raw (T : Txt K mg C) : C8.Cal P w K mg base 5 "_law_raw" sp_law_raw [] := by
  refine calF T.d_law_raw sc_law_raw (fun vs H Q E h => ?_) (fun f0 cdv A outer s H vs Q E hr h => ?_)
  · obtain ⟨_, _, _, _, _, _, rfl, _⟩ := h; rfl
  · obtain ⟨g, cs, m, cnt, most, n, rfl, lcs, lowc, hm, hmost, hcnt, G, q⟩ := h
    have csne : cs ≠ [] := fun z => by rw [z] at lcs; cases lcs
    refine ⟨_, (pss_cons (ps_par (i := 5) (j := 6) (by rfl) sc_law_raw.nd rfl rfl (by decide) rfl rfl (pa_cons (pe_lst pa_nil) (pa_cons (C8.pe_c (c_law_word T) hr (by decide) (by rfl) (pa_cons (pv 0) (pa_cons (pe_slice C8.sl_txt (pv 2) po_none (po_some (pe_op op_add pe_int (C8.pe_c (c_law_random T) hr (by decide) (by rfl) (pa_cons (pv 0) (pa_cons pe_int pa_nil)))))) (pa_cons pe_int (pa_cons pe_int pa_nil))))) pa_nil)) (by rfl))
    (pss_cons (ps_for PassesOwn.never rfl (pi_range1 (by rfl) T.m_range (pa_cons (pv 3) pa_nil)) (pg_name (i := 7) sc_law_raw.nd rfl (Or.inl rfl))
    (pss_cons (ps_expr (pe_bm PySem.F.plainAttrs_list PySem.F.slot_list_append PySem.F.type_list_append mt_append (pv 5) (pa_cons (C8.pe_c (c_law_piece T) hr (by decide) (by rfl) (pa_cons (pv 0) (pa_cons (pv 1) (pa_cons (pv 2) (pa_cons (pv 6) (pa_cons (pv 4) pa_nil)))))) pa_nil)))
    (pss_one (ps_if (pt_cmpR op_eq (C8.pe_c (c_law_random T) hr (by decide) (by rfl) (pa_cons (pv 0) (pa_cons pe_int pa_nil))) pe_int (nomark _))
    (pss_one (ps_set (i := 6) sc_law_raw.nd rfl (Or.inl rfl) (C8.pe_c (c_law_word T) hr (by decide) (by rfl) (pa_cons (pv 0) (pa_cons (pv 2) (pa_cons pe_int (pa_cons pe_int pa_nil)))))))
    pss_nil))))
    (pss_one (ps_ret (pv 5))))), ?_⟩
    refine ⟨by show 0 ≤ sizeLine; omega, fun L hL => ?_⟩
    have s0 := sameNew (o := .lst []) hL
    have Lg := G.ne hL
    have G0 := G.same s0
    refine ⟨_, rfl, _, rfl, _, rfl, g, 2, n + 999, rfl, G0, by decide, by decide, fun r H1 s1 G1 r0 r1 => ?_⟩
    obtain ⟨rn, rfl⟩ : ∃ rn : Nat, r = rn := ⟨r.toNat, by omega⟩
    refine ⟨_, _, rfl, rfl, ((2 + rn : Nat) : Int), congrArg V.int (by omega), S cs, rfl, len_line (by omega), ?_⟩
    rw [SX.slice_to (by omega), Int.toNat_natCast]
    have c2ne : cs.take (2 + rn) ≠ [] := fun z => by
      have := congrArg List.length z
      rw [List.length_take, List.length_nil] at this
      omega
    have bne' : ∀ {b : List Nat}, 1 ≤ b.length → b ≠ [] := fun {b} h z => by
      rw [z] at h
      simp at h
    refine ⟨g, cs.take (2 + rn), n + 900, 1, 3, rfl, c2ne, by rw [List.length_take]; omega, low_take lowc _, G1.le (by omega), by decide, by decide, fun b H2 s2 G2 b1 b3 lowb => ⟨_, _, rfl, ?_⟩⟩
    have sx := s1.trans s2
    refine ⟨_, rfl, (cnt : Int), rfl, by omega, by omega, ?_⟩
    refine for_it walk_range (fun i σ H' => i ≤ cnt ∧ ∃ (b : List Nat) (y7 : Option V) (ps : List Pn), σ = [some (.ref g), some (.int m), some (.str (S cs)), some (.int cnt), some (.int most), some (.ref L), some (.str (S b)), y7] ∧ Grow g H L H' ps ∧ Gn (n + 100 * (7 - i)) H' g ∧ ps.length ≤ i ∧ Dr m ps ∧ b ≠ [] ∧ b.length ≤ 3 ∧ Low b)
      ⟨Nat.zero_le _, b, none, [], rfl, ⟨(SameX.of s0).trans sx, ⟨[], sx _ _ Lg upd_same, .nil⟩, Lg, hL⟩, G2.le (by omega), Nat.zero_le _, fun p hp => absurd hp List.not_mem_nil, bne' b1, b3, lowb⟩ (fun _ _ _ _ _ => True.intro) (fun i x σ H' H'' hi pI yy => ?_) fun σ H' pI => ?_
    · obtain ⟨_, b, y7, ps, rfl, gr, G3, lps, dr, bne, b3, lowb⟩ := pI
      obtain ⟨rfl, rfl⟩ := yy
      have i7 : i < 7 := by
        have : i < ((cnt : Int)).toNat := hi
        omega
      have eG : n + 100 * (7 - i) = n + 100 * (7 - (i + 1)) + 100 := by omega
      rw [eG] at G3
      obtain ⟨vs, hvs, _⟩ := id gr.pl
      refine ⟨_, rfl, .inl ⟨rfl, _, .inl (.inl hvs)⟩, _, rfl, _, rfl, _, rfl, _, rfl, _, rfl, g, cs, b, m, most, n + 100 * (7 - (i + 1)) + 50, rfl, lcs, lowc, bne, b3, lowb, hm, hmost, G3.le (by omega), fun a p H4 s4 G4 pc lp wp low up => ?_⟩
      have gr4 := gr.go G3 s4
      obtain ⟨us, hus, pus⟩ := id gr4.pl
      have lu := pus.len
      refine ⟨L, _, _, rfl, rfl, hus, by rw [sizeLine_eq]; omega, ?_⟩
      have gr5 : Grow g H L (upd H4 L (.lst (us ++ [.ref a]))) (ps ++ [p]) := by
        refine ⟨fun c o hc hO => ?_, ⟨_, upd_same, (pus.upd hus).app (.one (pc.mono (tup_upd hus)))⟩, gr4.ne, gr4.new⟩
        have hcL : c ≠ L := fun z => by rw [z, gr4.new] at hO; cases hO
        rw [upd_ne hcL]
        exact gr4.sx c o hc hO
      have G5 := G4.upd (o := .lst (us ++ [.ref a])) gr4.ne
      have dr5 : Dr m (ps ++ [p]) := fun x hx => by
        rcases List.mem_append.mp hx with z | z
        · exact dr x z
        · rw [List.mem_singleton.mp z]
          exact ⟨lp, wp, low, up⟩
      have l5 : (ps ++ [p]).length ≤ i + 1 := by rw [List.length_append, List.length_singleton]; omega
      refine ⟨_, rfl, g, 5, n + 100 * (7 - (i + 1)) + 49, rfl, G5, by decide, by decide, fun r H6 s6 G6 r0 r1 => ?_⟩
      have gr6 := gr5.go G5 s6
      have hic : i + 1 ≤ cnt := by
        have : i < ((cnt : Int)).toNat := hi
        omega
      refine ⟨rfl, _, rfl, ite2 (fun e => ?_) (fun e => ?_)⟩
      · refine ⟨_, rfl, _, rfl, g, cs, n + 100 * (7 - (i + 1)) + 39, 1, 3, rfl, csne, by omega, lowc, G6, by decide, by decide, fun b' H7 s7 G7 b1' b3' lowb' => ?_⟩
        exact ⟨hic, b', _, _, rfl, gr6.go G6 s7, G7.le (by omega), l5, dr5, bne' b1', b3', lowb'⟩
      · exact ⟨hic, b, _, _, rfl, gr6, G6.le (by omega), l5, dr5, bne, b3, lowb⟩
    · obtain ⟨_, b, y7, ps, rfl, gr, G3, lps, dr, _⟩ := pI
      refine ⟨_, rfl, q L ps H' gr (G3.le (by omega)) ?_ dr⟩
      have : ((cnt : Int)).toNat = cnt := Int.toNat_natCast cnt
      omega
end
end K13

set_option Elab.async false
set_option linter.all false
set_option maxRecDepth 100000
set_option maxHeartbeats 4000000
namespace K13
open PySem PySem.Spec PyProof.Rows L2 CK SX NM
/-! ### open texts -/
/-- the attributes, as they are set -/
def OF (l : Addr) (m : Nat) : List (Str × V) := putF "_many" (V.int (m : Nat)) (putF "_pieces" (V.ref l) [])
theorem ne_pm : ¬ (("_pieces" : Str) = "_many") := by decide +kernel
theorem of_p (l : Addr) (m : Nat) : (OF l m).lookup ("_pieces" : Str) = some (V.ref l) := by
  unfold OF
  rw [lookup_putF, if_neg ne_pm, lookup_putF, if_pos rfl]
theorem of_m (l : Addr) (m : Nat) : (OF l m).lookup ("_many" : Str) = some (V.int (m : Nat)) := by
  unfold OF
  rw [lookup_putF, if_pos rfl]
theorem of_no (l : Addr) (m : Nat) {x : Str} (h1 : ¬ x = "_pieces") (h2 : ¬ x = "_many") : (OF l m).lookup x = none := by
  unfold OF
  rw [lookup_putF, if_neg h2, lookup_putF, if_neg h1]
  rfl
/-- an open text at p, its list of pieces at l -/
structure OTl (C : Addr) (H : Hp) (p l : Addr) (m : Nat) (ps : List Pn) : Prop where
  at_ : ∃ dx, H p = some (.ins C dx (OF l m))
  gl : GL H m l ps
def OT (C : Addr) (H : Hp) (p : Addr) (m : Nat) (ps : List Pn) : Prop := ∃ l, OTl C H p l m ps
theorem OTl.same {C : Addr} {H H' : Hp} {p l : Addr} {m : Nat} {ps : List Pn} (h : OTl C H p l m ps) (s : Same H H') : OTl C H' p l m ps := by
  obtain ⟨⟨dx, e⟩, g⟩ := h
  exact ⟨⟨dx, s _ _ e⟩, g.same s⟩
theorem OT.same {C : Addr} {H H' : Hp} {p : Addr} {m : Nat} {ps : List Pn} (h : OT C H p m ps) (s : Same H H') : OT C H' p m ps := by
  obtain ⟨l, h⟩ := h
  exact ⟨l, h.same s⟩
theorem GL.ins {H : Hp} {m : Nat} {l p C dx : Addr} {ps : List Pn} {fs gs : List (Str × V)} (h : GL H m l ps) (hp : H p = some (.ins C dx fs)) : GL (upd H p (.ins C dx gs)) m l ps := by
  obtain ⟨⟨vs, hl, hv⟩, a, b, c, d, e⟩ := h
  refine ⟨⟨vs, ?_, hv.mono fun a xs e => ?_⟩, a, b, c, d, e⟩
  · rw [upd_ne (fun z => by rw [z, hp] at hl; cases hl)]
    exact hl
  · rw [upd_ne (fun z => by rw [z, hp] at e; cases e)]
    exact e
/-- what is written at ones is not too long -/
def Wl (m : Nat) (ps : List Pn) : Prop := (wr (List.replicate m 1) ps).length < 2 ^ 900
theorem bf_normL {m : Nat} {ps : List Pn} (h : LenF m ps) (hw : Wl m ps) : ∀ p ∈ normL ps, Bf p.2 := fun p hp n hn => Nat.lt_of_le_of_lt (num_le h (Nat.le_refl _) hp hn) hw
theorem wl_normL {m : Nat} {ps : List Pn} (h : LenF m ps) (hw : Wl m ps) : Wl m (normL ps) := by
  unfold Wl
  rw [wr_normL h]
  exact hw
section
variable {P : Program} {w : World} {K : PySem.W.Frag} {mg : Str → Option Value} {base : Heap} {C : Addr}
def sp_init (C : Addr) : Sp := fun vs H Q _ => ∃ (p dx l : Addr) (m : Nat) (ps : List Pn), vs = [.ref p, .int m, .ref l] ∧ H p = some (.ins C dx []) ∧ m ≤ 3 ∧ GL H m l ps ∧ meas ps ≤ 2000 ∧ Wl m ps ∧
  ∀ r H', SameX p H H' → H r = none → OTl C H' p r m (normL ps) → Q .non H'
theorem n_OpenText (T : Txt K mg C) : C8.Mak P w K mg base 7 "OpenText" C (sp_init C) [] := by
  refine makF T.k_OpenText T.d_OpenText___init__ sc_OpenText___init__ (fun vs H Q E h => ?_) (fun f cdv A outer s H vs Q E hr h => ?_)
  · obtain ⟨_, _, _, _, _, rfl, _⟩ := h; rfl
  · obtain ⟨p, dx, l, m, ps, rfl, hp, m3, g, hme, hw, q⟩ := h
    have cl := T.k_OpenText.ins.cl
    refine ⟨_, (pss_cons (ps_fld (pv 0) (C8.pe_c (c_normal T) hr (by decide) (by rfl) (pa_cons (pv 1) (pa_cons (pv 2) pa_nil))) rfl)
    (pss_one (ps_fld (pv 0) (pv 1) rfl))), ?_⟩
    refine ⟨_, rfl, _, rfl, m, l, ps, rfl, m3, g, hme, fun r H1 s1 n1 pl => ?_⟩
    have hp1 := s1 _ _ hp
    have hp2 : (upd H1 p (.ins C dx (putF "_pieces" (V.ref r) []))) p = some (.ins C dx (putF "_pieces" (V.ref r) [])) := upd_same
    refine ⟨_, rfl, p, C, dx, _, rfl, hp1, cl, T.f_pieces, by show 0 < 1000; decide, ?_⟩
    refine ⟨_, rfl, _, rfl, p, C, dx, _, rfl, hp2, cl, T.f_many, by show 1 < 1000; decide, ?_⟩
    rw [upd_upd]
    have nm := nm_normL g.len
    have mle := meas_normL g.len
    have sm := nm.small (B := 2000) (by omega)
    have gr : GL H1 m r (normL ps) := ⟨pl, nm.lenF, sm.2, lowP_normL g.low, bf_normL g.len hw, by have := sm.1; omega⟩
    refine q r _ (fun b o hb e => ?_) n1 ⟨⟨dx, upd_same⟩, gr.ins hp1⟩
    rw [upd_ne hb]
    exact s1 _ _ e
def sp_eq (C : Addr) : Sp := fun vs H Q _ => ∃ (a b : Addr) (m m' : Nat) (ps qs : List Pn), vs = [.ref a, .ref b] ∧ OT C H a m ps ∧ OT C H b m' qs ∧ Q (.bl (decide (m = m') && decide (ps = qs))) H
theorem m_OpenText___eq__ (T : Txt K mg C) : C8.Met P w K mg base 1 C "__eq__" (sp_eq C) [] := by
  refine metF T.k_OpenText T.d_OpenText___eq__ sc_OpenText___eq__ (fun vs H Q E h => ?_) (fun f cdv A outer s H vs Q E hr h => ?_)
  · obtain ⟨_, _, _, _, _, _, rfl, _⟩ := h; rfl
  · obtain ⟨a, b, m, m', ps, qs, rfl, ⟨l, ⟨dx, ha⟩, ga⟩, ⟨l', ⟨dy, hb⟩, gb⟩, q⟩ := h
    have cl := T.k_OpenText.ins.cl
    refine ⟨_, (pss_one (ps_ret (pe_and (pe_callB (C8.call_isC T.k_OpenText.ins) (by rfl) T.m_isinstance (by decide +kernel) (pa_cons (pv 1) (pa_cons (C8.pe_gc (v := .ref C) (by rfl) ⟨_, T.k_OpenText.mgC, rfl⟩) pa_nil))) (pe_and (pe_cmpR op_eq (pe_fld (pv 0) rfl) (pe_fld (pv 1) rfl) (nomark _)) (pe_one (pe_cmpR (op_eqD hr.units) (pe_fld (pv 0) rfl) (pe_fld (pv 1) rfl) (nomark _))))))), ?_⟩
    refine ⟨_, rfl, b, dy, _, rfl, hb, _, rfl, iteT ?_⟩
    refine ⟨_, rfl, a, C, dx, _, _, rfl, ha, cl, T.f_many, of_m l m, _, rfl, b, C, dy, _, _, rfl, hb, cl, T.f_many, of_m l' m', rfl, _, rfl, ?_⟩
    by_cases e : m = m'
    · subst e
      rw [decide_eq_true (rfl : m = m), Bool.true_and] at q
      rw [decide_eq_true (rfl : V.int (m : Nat) = V.int (m : Nat))]
      refine iteT ⟨_, rfl, a, C, dx, _, _, rfl, ha, cl, T.f_pieces, of_p l m, _, rfl, b, C, dy, _, _, rfl, hb, cl, T.f_pieces, of_p l' m, .list (ps.map dP), .list (qs.map dP), dp_PL ga.at_, dp_PL gb.at_, shaped_dPs ga.low, shaped_dPs gb.low, ?_⟩
      rw [eqv_dPs]
      exact q
    · rw [decide_eq_false e, Bool.false_and] at q
      rw [decide_eq_false (fun z => e (by have := V.int.inj z; omega))]
      exact iteF q
def sp_many (C : Addr) : Sp := fun vs H Q _ => ∃ (a : Addr) (m : Nat) (ps : List Pn), vs = [.ref a] ∧ OT C H a m ps ∧ Q (.int (m : Nat)) H
theorem m_OpenText_many (T : Txt K mg C) : C8.Met P w K mg base 1 C "many" (sp_many C) [] := by
  refine metF T.k_OpenText T.d_OpenText_many sc_OpenText_many (fun vs H Q E h => ?_) (fun f cdv A outer s H vs Q E hr h => ?_)
  · obtain ⟨_, _, _, rfl, _⟩ := h; rfl
  · obtain ⟨a, m, ps, rfl, ⟨l, ⟨dx, ha⟩, ga⟩, q⟩ := h
    refine ⟨_, (pss_one (ps_ret (pe_fld (pv 0) rfl))), ?_⟩
    exact ⟨_, rfl, a, C, dx, _, _, rfl, ha, T.k_OpenText.ins.cl, T.f_many, of_m l m, q⟩
def sp_pieces (C : Addr) : Sp := fun vs H Q _ => ∃ (a : Addr) (m : Nat) (ps : List Pn), vs = [.ref a] ∧ OT C H a m ps ∧ ∀ L H', Same H H' → H L = none → GL H' m L ps → Q (.ref L) H'
theorem m_OpenText_pieces (T : Txt K mg C) : C8.Met P w K mg base 1 C "pieces" (sp_pieces C) [] := by
  refine metF T.k_OpenText T.d_OpenText_pieces sc_OpenText_pieces (fun vs H Q E h => ?_) (fun f cdv A outer s H vs Q E hr h => ?_)
  · obtain ⟨_, _, _, rfl, _⟩ := h; rfl
  · obtain ⟨a, m, ps, rfl, ⟨l, ⟨dx, ha⟩, ga⟩, q⟩ := h
    obtain ⟨us, hus, pus⟩ := id ga.at_
    refine ⟨_, (pss_one (ps_ret (pe_callTy call_list_of (by rfl) T.m_list (by decide +kernel) (pa_cons (pe_fld (pv 0) rfl) pa_nil)))), ?_⟩
    refine ⟨_, rfl, a, C, dx, _, _, rfl, ha, T.k_OpenText.ins.cl, T.f_pieces, of_p l m, l, us, rfl, .inl (.inl (.inl hus)), fun L nL => q L _ (sameNew nL) nL ?_⟩
    exact ⟨⟨us, upd_same, pus.same (sameNew nL)⟩, ga.len, ga.ws, ga.low, ga.bf, ga.few⟩
end
end K13

set_option Elab.async false
set_option linter.all false
set_option maxRecDepth 100000
set_option maxHeartbeats 2000000
namespace K13
open PySem PySem.Spec PyProof.Rows L2 CK SX NM WM
/-! ### what the steps keep -/
structure Stp (i m : Nat) (ps : List Pn) : Prop where
  len : LenF m ps
  low : LowP ps
  me : meas ps ≤ 300 + 24 * i
  ws : ∀ p ∈ ps, p.1.length ≤ 600
  op : ∀ p ∈ ps, isOpen p.2 = true → p.1.length ≤ 24
  few : ps.length ≤ 5 + i
  up : ∀ p ∈ ps, ∀ x ∈ p.2, x ≤ 4 * 2 ^ i
theorem pow_le {i j : Nat} (h : i ≤ j) : 4 * 2 ^ i ≤ 4 * 2 ^ j := Nat.mul_le_mul_left _ (Nat.pow_le_pow_right (by decide) h)
theorem Stp.le {i j m : Nat} {ps : List Pn} (h : Stp i m ps) (hj : i ≤ j) : Stp j m ps :=
  ⟨h.len, h.low, by have := h.me; omega, h.ws, h.op, by have := h.few; omega, fun p hp x hx => Nat.le_trans (h.up p hp x hx) (pow_le hj)⟩
theorem mem3 {A X B : List Pn} {p : Pn} : p ∈ A ++ X ++ B ↔ p ∈ A ∨ p ∈ X ∨ p ∈ B := by
  rw [List.mem_append, List.mem_append, or_assoc]
theorem Stp.repl {i m : Nat} {A X Y B : List Pn} (h : Stp i m (A ++ X ++ B)) (hl : LenF m Y) (low : LowP Y) (hm : meas Y ≤ meas X + 24) (ws : ∀ p ∈ Y, p.1.length ≤ 600) (op : ∀ p ∈ Y, isOpen p.2 = true → p.1.length ≤ 24) (few : Y.length ≤ X.length + 1)
    (up : ∀ p ∈ Y, ∀ x ∈ p.2, x ≤ 4 * 2 ^ (i + 1)) : Stp (i + 1) m (A ++ Y ++ B) := by
  have a1 : ∀ p ∈ A, p ∈ A ++ X ++ B := fun p hp => mem3.mpr (.inl hp)
  have a2 : ∀ p ∈ B, p ∈ A ++ X ++ B := fun p hp => mem3.mpr (.inr (.inr hp))
  refine ⟨fun p hp => ?_, fun p hp => ?_, ?_, fun p hp => ?_, fun p hp => ?_, ?_, fun p hp => ?_⟩
  · rcases mem3.mp hp with z | z | z
    · exact h.len p (a1 p z)
    · exact hl p z
    · exact h.len p (a2 p z)
  · rcases mem3.mp hp with z | z | z
    · exact h.low p (a1 p z)
    · exact low p z
    · exact h.low p (a2 p z)
  · have := h.me
    rw [meas_app, meas_app] at this ⊢
    omega
  · rcases mem3.mp hp with z | z | z
    · exact h.ws p (a1 p z)
    · exact ws p z
    · exact h.ws p (a2 p z)
  · rcases mem3.mp hp with z | z | z
    · exact h.op p (a1 p z)
    · exact op p z
    · exact h.op p (a2 p z)
  · have := h.few
    simp only [List.length_append] at this ⊢
    omega
  · have e := pow_le (show i ≤ i + 1 by omega)
    rcases mem3.mp hp with z | z | z
    · exact fun x hx => Nat.le_trans (h.up p (a1 p z) x hx) e
    · exact up p z
    · exact fun x hx => Nat.le_trans (h.up p (a2 p z) x hx) e
/-- the same words -/
def SameW (m : Nat) (ps qs : List Pn) : Prop := ∀ pt : List Nat, pt.length = m → wr pt qs = wr pt ps
theorem SameW.repl {m : Nat} {A X Y B : List Pn} (h : SameW m X Y) : SameW m (A ++ X ++ B) (A ++ Y ++ B) := fun pt hp => by
  simp only [wr_app, h pt hp]
theorem split1 {ps : List Pn} {k : Nat} {p : Pn} (h : ps[k]? = some p) : ps = ps.take k ++ [p] ++ ps.drop (k + 1) := by
  obtain ⟨hk, e⟩ := List.getElem?_eq_some_iff.mp h
  conv => lhs; rw [← List.take_append_drop k ps, ← List.getElem_cons_drop hk, e]
  simp
theorem split2 {ps : List Pn} {k : Nat} {p q : Pn} (h : ps[k]? = some p) (h' : ps[k + 1]? = some q) : ps = ps.take k ++ [p, q] ++ ps.drop (k + 2) := by
  obtain ⟨hk, e⟩ := List.getElem?_eq_some_iff.mp h
  obtain ⟨hk', e'⟩ := List.getElem?_eq_some_iff.mp h'
  conv => lhs; rw [← List.take_append_drop k ps, ← List.getElem_cons_drop hk, e, ← List.getElem_cons_drop hk', e']
  simp
theorem meas_two (p q : Pn) : meas [p, q] = measP p + measP q := by simp [meas]
theorem meas_three (p q r : Pn) : meas [p, q, r] = measP p + measP q + measP r := by simp [meas]; omega
def opn (f : F) : Nat := if isOpen f then 1 else 0
theorem measP_eq (w : W) (f : F) : measP (w, f) = w.length * f.headD 0 + w.length * opn f := by
  unfold measP opn
  rw [Nat.mul_add]
theorem open_false {f : F} : isOpen f = false ↔ ∀ x ∈ f.tail, x = 0 := by
  cases e : isOpen f with
  | false =>
    refine ⟨fun _ x hx => Classical.byContradiction fun z => ?_, fun _ => rfl⟩
    have := isOpen_iff.mpr ⟨x, hx, z⟩
    rw [e] at this
    cases this
  | true =>
    refine ⟨fun z => (by cases z), fun h => ?_⟩
    obtain ⟨x, hx, x0⟩ := isOpen_iff.mp e
    exact absurd (h x hx) x0
theorem tail_add : ∀ (f g : F), (addF f g).tail = addF f.tail g.tail
  | [], _ => by simp [addF]
  | _ :: _, [] => by simp [addF]
  | a :: f, b :: g => rfl
theorem headD_add {f g : F} (h : f.length = g.length) : (addF f g).headD 0 = f.headD 0 + g.headD 0 := by
  cases f with
  | nil =>
    cases g with
    | nil => rfl
    | cons b g => simp at h
  | cons a f =>
    cases g with
    | nil => simp at h
    | cons b g => rfl
theorem mem_addL : ∀ {f g : F} {x : Nat}, f.length = g.length → x ∈ f → ∃ y ∈ addF f g, x ≤ y
  | a :: f, b :: g, x, h, hx => by
    rcases List.mem_cons.mp hx with z | z
    · exact ⟨a + b, List.mem_cons_self, by omega⟩
    · obtain ⟨y, hy, l⟩ := mem_addL (f := f) (g := g) (by simpa using h) z
      exact ⟨y, List.mem_cons_of_mem _ hy, l⟩
  | _ :: _, [], _, h, _ => by simp at h
theorem add_comm (f g : F) : addF f g = addF g f := by
  unfold addF
  rw [List.zipWith_comm]
  congr 1
  funext a b
  exact Nat.add_comm _ _
theorem mem_add : ∀ {f g : F} {y : Nat}, y ∈ addF f g → ∃ a ∈ f, ∃ b ∈ g, y = a + b
  | a :: f, b :: g, y, hy => by
    rcases List.mem_cons.mp hy with z | z
    · exact ⟨a, List.mem_cons_self, b, List.mem_cons_self, z⟩
    · obtain ⟨a', h1, b', h2, e⟩ := mem_add (f := f) (g := g) z
      exact ⟨a', List.mem_cons_of_mem _ h1, b', List.mem_cons_of_mem _ h2, e⟩
  | [], _, _, hy => by simp [addF] at hy
  | _ :: _, [], _, hy => by simp [addF] at hy
theorem open_addL {f g : F} (h : f.length = g.length) (e : isOpen (addF f g) = false) : isOpen f = false ∧ isOpen g = false := by
  have ht : f.tail.length = g.tail.length := by simp [h]
  rw [open_false, tail_add] at e
  refine ⟨open_false.mpr fun x hx => ?_, open_false.mpr fun x hx => ?_⟩
  · obtain ⟨y, hy, l⟩ := mem_addL ht hx
    have := e y hy
    omega
  · rw [add_comm] at e
    obtain ⟨y, hy, l⟩ := mem_addL ht.symm hx
    have := e y hy
    omega
theorem opn_le (f : F) : opn f ≤ 1 := by unfold opn; split <;> omega
theorem opn_closed {f : F} (h : isOpen f = false) : opn f = 0 := by unfold opn; rw [h]; rfl
theorem opn_open {f : F} (h : isOpen f = true) : opn f = 1 := by unfold opn; rw [h]; rfl
theorem mul_opn {w : W} {f : F} (h : isOpen f = true → w.length ≤ 24) : w.length * opn f ≤ 24 := by
  cases e : isOpen f with
  | false => rw [opn_closed e]; omega
  | true =>
    rw [opn_open e]
    have := h e
    omega
/-- a power in two -/
theorem stp_parted {i m k : Nat} {ps : List Pn} {w : W} {f g h : F} (s : Stp i m ps) (hp : ps[k]? = some (w, f)) (e : addF g h = f) (lg : g.length = m + 1) (lh : h.length = m + 1) :
    Stp (i + 1) m (ps.take k ++ [(w, g), (w, h)] ++ ps.drop (k + 1)) ∧ SameW m ps (ps.take k ++ [(w, g), (w, h)] ++ ps.drop (k + 1)) := by
  have mem := List.mem_of_getElem? hp
  have sp := split1 hp
  have s' := s
  rw [sp] at s'
  have lgh : g.length = h.length := by omega
  have lw := s.low _ mem
  have w6 := s.ws _ mem
  have wo := s.op _ mem
  have ups := s.up _ mem
  subst e
  have og : isOpen g = true → isOpen (addF g h) = true := fun z => by
    cases y : isOpen (addF g h) with
    | true => rfl
    | false => rw [(open_addL lgh y).1] at z; cases z
  have oh : isOpen h = true → isOpen (addF g h) = true := fun z => by
    cases y : isOpen (addF g h) with
    | true => rfl
    | false => rw [(open_addL lgh y).2] at z; cases z
  have dbl : 4 * 2 ^ i ≤ 4 * 2 ^ (i + 1) := pow_le (by omega)
  refine ⟨s'.repl ?_ ?_ ?_ ?_ ?_ (by simp) ?_, ?_⟩
  · intro p hp
    rcases List.mem_cons.mp hp with z | z
    · rw [z]; exact lg
    · rw [List.mem_singleton.mp z]; exact lh
  · intro p hp
    rcases List.mem_cons.mp hp with z | z
    · rw [z]; exact lw
    · rw [List.mem_singleton.mp z]; exact lw
  · rw [meas_two, meas_one, measP_eq, measP_eq, measP_eq, headD_add lgh, Nat.mul_add]
    cases y : isOpen (addF g h) with
    | false =>
      obtain ⟨y1, y2⟩ := open_addL lgh y
      rw [opn_closed y1, opn_closed y2, opn_closed y]
      omega
    | true =>
      have := wo y
      have m1 : w.length * opn g ≤ w.length := by have := opn_le g; exact Nat.le_trans (Nat.mul_le_mul_left _ this) (by omega)
      have m2 : w.length * opn h ≤ w.length := by have := opn_le h; exact Nat.le_trans (Nat.mul_le_mul_left _ this) (by omega)
      rw [opn_open y, Nat.mul_one]
      have : w.length ≤ 24 := this
      omega
  · intro p hp
    rcases List.mem_cons.mp hp with z | z
    · rw [z]; exact w6
    · rw [List.mem_singleton.mp z]; exact w6
  · intro p hp
    rcases List.mem_cons.mp hp with z | z
    · rw [z]; exact fun o => wo (og o)
    · rw [List.mem_singleton.mp z]; exact fun o => wo (oh o)
  · intro p hp x hx
    rcases List.mem_cons.mp hp with z | z
    · rw [z] at hx
      obtain ⟨y, hy, l⟩ := mem_addL lgh hx
      have := ups y hy
      omega
    · rw [List.mem_singleton.mp z] at hx
      obtain ⟨y, hy, l⟩ := mem_addL lgh.symm hx
      rw [add_comm] at hy
      have := ups y hy
      omega
  · have base : SameW m [(w, addF g h)] [(w, g), (w, h)] := fun pt hpt => by
      rw [wr_one]
      rw [show wr pt [(w, g), (w, h)] = wrt pt (w, g) ++ wrt pt (w, h) by rw [wr, wr_one]]
      unfold wrt
      rw [val_add pt lgh, pw_add]
    conv => arg 2; rw [sp]
    exact base.repl
/-- a word twice -/
theorem stp_doubled {i m k : Nat} {ps : List Pn} {w : W} {f : F} (s : Stp i m ps) (hp : ps[k]? = some (w, f)) (hw : w.length < 12) (he : ∀ x ∈ f, x % 2 = 0) :
    Stp (i + 1) m (ps.take k ++ [(w ++ w, f.map fun x => x / 2)] ++ ps.drop (k + 1)) ∧ SameW m ps (ps.take k ++ [(w ++ w, f.map fun x => x / 2)] ++ ps.drop (k + 1)) := by
  have mem := List.mem_of_getElem? hp
  have sp := split1 hp
  have s' := s
  rw [sp] at s'
  have lf := s.len _ mem
  have lw := s.low _ mem
  have ups := s.up _ mem
  have dbl : 4 * 2 ^ i ≤ 4 * 2 ^ (i + 1) := pow_le (by omega)
  have et : timesF 2 (f.map fun x => x / 2) = f := by
    unfold timesF
    rw [List.map_map]
    refine (List.map_congr_left fun x hx => ?_).trans (List.map_id _)
    have := he x hx
    show 2 * (x / 2) = x
    omega
  have eh : f.headD 0 = 2 * (f.map fun x => x / 2).headD 0 := by
    conv => lhs; rw [← et]
    cases f <;> rfl
  refine ⟨s'.repl ?_ ?_ ?_ ?_ ?_ (by simp) ?_, ?_⟩
  · intro p hp
    rw [List.mem_singleton.mp hp]
    show (f.map fun x => x / 2).length = m + 1
    rw [List.length_map]
    exact lf
  · intro p hp
    rw [List.mem_singleton.mp hp]
    exact low_app lw lw
  · rw [meas_one, meas_one, measP_eq, measP_eq, eh, List.length_append]
    have o1 := opn_le (f.map fun x => x / 2)
    have m1 : (w.length + w.length) * opn (f.map fun x => x / 2) ≤ (w.length + w.length) * 1 := Nat.mul_le_mul_left _ o1
    have m2 : (w.length + w.length) * (f.map fun x => x / 2).headD 0 = w.length * (2 * (f.map fun x => x / 2).headD 0) := by
      rw [← Nat.mul_assoc, Nat.mul_comm w.length 2, Nat.two_mul]
    omega
  · intro p hp
    rw [List.mem_singleton.mp hp]
    show (w ++ w).length ≤ 600
    rw [List.length_append]
    omega
  · intro p hp _
    rw [List.mem_singleton.mp hp]
    show (w ++ w).length ≤ 24
    rw [List.length_append]
    omega
  · intro p hp x hx
    rw [List.mem_singleton.mp hp] at hx
    obtain ⟨y, hy, rfl⟩ := List.mem_map.mp hx
    have := ups y hy
    omega
  · have base : SameW m [(w, f)] [(w ++ w, f.map fun x => x / 2)] := fun pt hpt => by
      rw [wr_one, wr_one]
      unfold wrt
      show pw (w ++ w) (valF (f.map fun x => x / 2) pt) = pw w (valF f pt)
      conv => rhs; rw [← et, val_times]
      rw [← pw_mul, show pw w 2 = w ++ w by rw [pw_succ, pw_one]]
    conv => arg 2; rw [sp]
    exact base.repl
/-- a letter moved -/
theorem stp_moved {i m k c : Nat} {ps : List Pn} {w b : W} {f : F} (s : Stp i m ps) (hp : ps[k]? = some (c :: w, f)) (hq : ps[k + 1]? = some (c :: b, one1 m)) :
    Stp (i + 1) m (ps.take k ++ [([c], one1 m), (w ++ [c], f), (b, one1 m)] ++ ps.drop (k + 2)) ∧ SameW m ps (ps.take k ++ [([c], one1 m), (w ++ [c], f), (b, one1 m)] ++ ps.drop (k + 2)) := by
  have mem := List.mem_of_getElem? hp
  have mem' := List.mem_of_getElem? hq
  have sp := split2 hp hq
  have s' := s
  rw [sp] at s'
  have lf := s.len _ mem
  have lw := s.low _ mem
  have lb := s.low _ mem'
  have w6 := s.ws _ mem
  have b6 := s.ws _ mem'
  have wo := s.op _ mem
  have ups := s.up _ mem
  have dbl : 4 * 2 ^ i ≤ 4 * 2 ^ (i + 1) := pow_le (by omega)
  have p1 : 1 ≤ 4 * 2 ^ (i + 1) := by have := Nat.one_le_two_pow (n := i + 1); omega
  have up1 : ∀ x ∈ one1 m, x ≤ 4 * 2 ^ (i + 1) := fun x hx => by
    rcases List.mem_cons.mp hx with z | z
    · omega
    · rw [List.eq_of_mem_replicate z]; omega
  have lc : 97 ≤ c ∧ c ≤ 122 := lw c List.mem_cons_self
  have low_w : Low w := fun d hd => lw d (List.mem_cons_of_mem _ hd)
  have low_b : Low b := fun d hd => lb d (List.mem_cons_of_mem _ hd)
  have low_c : Low [c] := fun d hd => by rw [List.mem_singleton.mp hd]; exact lc
  refine ⟨s'.repl ?_ ?_ ?_ ?_ ?_ (by simp) ?_, ?_⟩
  · intro p hp
    rcases List.mem_cons.mp hp with z | z
    · rw [z]; exact len_one1 m
    rcases List.mem_cons.mp z with z | z
    · rw [z]; exact lf
    · rw [List.mem_singleton.mp z]; exact len_one1 m
  · intro p hp
    rcases List.mem_cons.mp hp with z | z
    · rw [z]; exact low_c
    rcases List.mem_cons.mp z with z | z
    · rw [z]; exact low_app low_w low_c
    · rw [List.mem_singleton.mp z]; exact low_b
  · rw [meas_three, meas_two]
    have h1 : ∀ v : W, measP (v, one1 m) = v.length := fun v => measP_fix v m
    rw [h1, h1, h1, measP_eq, measP_eq, List.length_append, List.length_cons, List.length_cons]
    simp
    omega
  · intro p hp
    rcases List.mem_cons.mp hp with z | z
    · rw [z]; show 1 ≤ 600; decide
    rcases List.mem_cons.mp z with z | z
    · rw [z]
      have : (c :: w).length ≤ 600 := w6
      show (w ++ [c]).length ≤ 600
      simp at this ⊢
      omega
    · rw [List.mem_singleton.mp z]
      have : (c :: b).length ≤ 600 := b6
      show b.length ≤ 600
      simp at this
      omega
  · intro p hp
    rcases List.mem_cons.mp hp with z | z
    · rw [z]; exact fun _ => by show 1 ≤ 24; decide
    rcases List.mem_cons.mp z with z | z
    · rw [z]
      intro o
      have : (c :: w).length ≤ 24 := wo o
      show (w ++ [c]).length ≤ 24
      simp at this ⊢
      omega
    · rw [List.mem_singleton.mp z]
      intro o
      have : isOpen (one1 m) = true := o
      rw [open_one] at this
      cases this
  · intro p hp
    rcases List.mem_cons.mp hp with z | z
    · rw [z]; exact up1
    rcases List.mem_cons.mp z with z | z
    · rw [z]; exact fun x hx => Nat.le_trans (ups x hx) dbl
    · rw [List.mem_singleton.mp z]; exact up1
  · have base : SameW m [(c :: w, f), (c :: b, one1 m)] [([c], one1 m), (w ++ [c], f), (b, one1 m)] := fun pt hpt => by
      have e1 : ∀ v : W, wrt pt (v, one1 m) = v := fun v => wrt_fix pt v m
      rw [wr, wr, wr_one, wr, wr_one, e1, e1, e1]
      unfold wrt
      show [c] ++ (pw (w ++ [c]) (valF f pt) ++ b) = pw ([c] ++ w) (valF f pt) ++ ([c] ++ b)
      rw [← List.append_assoc, ← List.append_assoc, pw_comm w [c]]
    conv => arg 2; rw [sp]
    exact base.repl
theorem add_zeros : ∀ t : F, addF (List.replicate t.length 0) t = t
  | [] => rfl
  | a :: t => by
    rw [List.length_cons, List.replicate_succ]
    show (0 + a) :: addF (List.replicate t.length 0) t = a :: t
    rw [add_zeros t, Nat.zero_add]
/-- a constant out -/
theorem stp_taken {i m k c : Nat} {ps : List Pn} {w : W} {t : F} (s : Stp i m ps) (hp : ps[k]? = some (w, (c + 1) :: t)) :
    Stp (i + 1) m (ps.take k ++ [(w, one1 m), (w, c :: t)] ++ ps.drop (k + 1)) ∧ SameW m ps (ps.take k ++ [(w, one1 m), (w, c :: t)] ++ ps.drop (k + 1)) := by
  have mem := List.mem_of_getElem? hp
  have lf := s.len _ mem
  have lt : t.length = m := by simpa using lf
  have e : addF (one1 m) (c :: t) = (c + 1) :: t := by
    show (1 + c) :: addF (List.replicate m 0) t = _
    have : addF (List.replicate m 0) t = t := by rw [← lt]; exact add_zeros t
    rw [this, Nat.add_comm]
  exact stp_parted s hp e (len_one1 m) (by simpa using lf)
/-- two of one word -/
theorem stp_join1 {i m k : Nat} {ps : List Pn} {w : W} {f g : F} (s : Stp i m ps) (hp : ps[k]? = some (w, f)) (hq : ps[k + 1]? = some (w, g)) :
    Stp (i + 1) m (ps.take k ++ [(w, addF f g)] ++ ps.drop (k + 2)) ∧ SameW m ps (ps.take k ++ [(w, addF f g)] ++ ps.drop (k + 2)) := by
  have mem := List.mem_of_getElem? hp
  have mem' := List.mem_of_getElem? hq
  have sp := split2 hp hq
  have s' := s
  rw [sp] at s'
  have lf := s.len _ mem
  have lg := s.len _ mem'
  have lfg : f.length = g.length := (show f.length = m + 1 from lf).trans (show g.length = m + 1 from lg).symm
  have dbl : 4 * 2 ^ (i + 1) = 4 * 2 ^ i + 4 * 2 ^ i := by rw [Nat.pow_succ]; omega
  refine ⟨s'.repl ?_ ?_ ?_ ?_ ?_ (by simp) ?_, ?_⟩
  · intro p hp
    rw [List.mem_singleton.mp hp]
    show (addF f g).length = m + 1
    rw [len_add lfg]
    exact lg
  · intro p hp
    rw [List.mem_singleton.mp hp]
    show Low w
    exact s.low (w, f) mem
  · rw [meas_one, meas_two, measP_eq, measP_eq, measP_eq, headD_add lfg, Nat.mul_add]
    have : w.length * opn (addF f g) ≤ w.length * opn f + w.length * opn g := by
      cases y : isOpen (addF f g) with
      | false => rw [opn_closed y]; omega
      | true =>
        rw [opn_open y]
        cases y1 : isOpen f with
        | true => rw [opn_open y1]; omega
        | false =>
          cases y2 : isOpen g with
          | true => rw [opn_open y2]; omega
          | false =>
            exfalso
            have h1 := open_false.mp y1
            have h2 := open_false.mp y2
            obtain ⟨x, hx, x0⟩ := isOpen_iff.mp y
            rw [tail_add] at hx
            obtain ⟨a, ha, b, hb, e⟩ := mem_add hx
            have := h1 a ha
            have := h2 b hb
            omega
    omega
  · intro p hp
    rw [List.mem_singleton.mp hp]
    show w.length ≤ 600
    exact s.ws (w, f) mem
  · intro p hp o
    rw [List.mem_singleton.mp hp] at o ⊢
    show w.length ≤ 24
    obtain ⟨x, hx, x0⟩ := isOpen_iff.mp o
    rw [show ((w, addF f g) : Pn).2.tail = addF f.tail g.tail from tail_add f g] at hx
    obtain ⟨a, ha, b, hb, e⟩ := mem_add hx
    by_cases a0 : a = 0
    · exact s.op (w, g) mem' (isOpen_iff.mpr ⟨b, hb, by omega⟩)
    · exact s.op (w, f) mem (isOpen_iff.mpr ⟨a, ha, a0⟩)
  · intro p hp x hx
    rw [List.mem_singleton.mp hp] at hx
    obtain ⟨a, ha, b, hb, e⟩ := mem_add hx
    have := s.up _ mem a ha
    have := s.up _ mem' b hb
    omega
  · have base : SameW m [(w, f), (w, g)] [(w, addF f g)] := fun pt hpt => by
      rw [wr_one]
      rw [show wr pt [(w, f), (w, g)] = wrt pt (w, f) ++ wrt pt (w, g) by rw [wr, wr_one]]
      unfold wrt
      rw [val_add pt lfg, pw_add]
    conv => arg 2; rw [sp]
    exact base.repl
/-- two fixed ones -/
theorem stp_join2 {i m k : Nat} {ps : List Pn} {w v : W} (s : Stp i m ps) (hi : i < 12) (hp : ps[k]? = some (w, one1 m)) (hq : ps[k + 1]? = some (v, one1 m)) :
    Stp (i + 1) m (ps.take k ++ [(w ++ v, one1 m)] ++ ps.drop (k + 2)) ∧ SameW m ps (ps.take k ++ [(w ++ v, one1 m)] ++ ps.drop (k + 2)) := by
  have mem := List.mem_of_getElem? hp
  have mem' := List.mem_of_getElem? hq
  have sp := split2 hp hq
  have s' := s
  rw [sp] at s'
  have h1 : ∀ v : W, measP (v, one1 m) = v.length := fun v => measP_fix v m
  have wv : w.length + v.length ≤ 600 := by
    have := s'.me
    rw [meas_app, meas_app, meas_two, h1, h1] at this
    omega
  have p1 : 1 ≤ 4 * 2 ^ (i + 1) := by have := Nat.one_le_two_pow (n := i + 1); omega
  refine ⟨s'.repl ?_ ?_ ?_ ?_ ?_ (by simp) ?_, ?_⟩
  · intro p hp
    rw [List.mem_singleton.mp hp]
    exact len_one1 m
  · intro p hp
    rw [List.mem_singleton.mp hp]
    exact low_app (s.low _ mem) (s.low _ mem')
  · rw [meas_one, meas_two, h1, h1, h1, List.length_append]
    omega
  · intro p hp
    rw [List.mem_singleton.mp hp]
    show (w ++ v).length ≤ 600
    rw [List.length_append]
    exact wv
  · intro p hp o
    rw [List.mem_singleton.mp hp] at o
    have : isOpen (one1 m) = true := o
    rw [open_one] at this
    cases this
  · intro p hp x hx
    rw [List.mem_singleton.mp hp] at hx
    rcases List.mem_cons.mp hx with z | z
    · omega
    · rw [List.eq_of_mem_replicate z]; omega
  · have base : SameW m [(w, one1 m), (v, one1 m)] [(w ++ v, one1 m)] := fun pt hpt => by
      have e1 : ∀ v : W, wrt pt (v, one1 m) = v := fun v => wrt_fix pt v m
      rw [wr_one, wr, wr_one, e1, e1, e1]
    conv => arg 2; rw [sp]
    exact base.repl
/-- an empty piece -/
theorem stp_empty {i m k : Nat} {ps : List Pn} {f : F} (s : Stp i m ps) (lf : f.length = m + 1) (uf : ∀ x ∈ f, x ≤ 4) :
    Stp (i + 1) m (ps.take k ++ [([], f)] ++ ps.drop k) ∧ SameW m ps (ps.take k ++ [([], f)] ++ ps.drop k) := by
  have sp : ps = ps.take k ++ [] ++ ps.drop k := by simp
  have s' := s
  rw [sp] at s'
  have p1 : 1 ≤ 2 ^ (i + 1) := Nat.one_le_two_pow
  refine ⟨s'.repl ?_ ?_ ?_ ?_ ?_ (by simp) ?_, ?_⟩
  · intro p hp
    rw [List.mem_singleton.mp hp]
    exact lf
  · intro p hp
    rw [List.mem_singleton.mp hp]
    exact low_nil
  · rw [meas_one, measP_eq]
    simp
  · intro p hp
    rw [List.mem_singleton.mp hp]
    exact Nat.zero_le _
  · intro p hp _
    rw [List.mem_singleton.mp hp]
    exact Nat.zero_le _
  · intro p hp x hx
    rw [List.mem_singleton.mp hp] at hx
    have := uf x hx
    omega
  · have base : SameW m [] [([], f)] := fun pt hpt => by
      rw [wr_one]
      exact pw_nil _
    conv => arg 2; rw [sp]
    exact base.repl
/-- where there was nothing -/
theorem stp_none {i m : Nat} {w : W} (s : Stp i m []) (lw : Low w) (l3 : w.length ≤ 24) : Stp (i + 1) m [(w, List.replicate (m + 1) 0)] ∧ SameW m [] [(w, List.replicate (m + 1) 0)] := by
  have s' : Stp i m ([] ++ [] ++ []) := s
  have z : ∀ x ∈ List.replicate (m + 1) 0, x = 0 := fun x hx => List.eq_of_mem_replicate hx
  refine ⟨s'.repl (A := []) (X := []) (B := []) (Y := [(w, List.replicate (m + 1) 0)]) ?_ ?_ ?_ ?_ ?_ (by simp) ?_, fun pt hpt => ?_⟩
  · intro p hp
    rw [List.mem_singleton.mp hp]
    simp
  · intro p hp
    rw [List.mem_singleton.mp hp]
    exact lw
  · have o : isOpen (List.replicate (m + 1) 0) = false := open_false.mpr fun x hx => z x (List.mem_of_mem_tail hx)
    rw [meas_one, measP_eq, opn_closed o]
    show w.length * 0 + w.length * 0 ≤ _
    omega
  · intro p hp
    rw [List.mem_singleton.mp hp]
    show w.length ≤ 600
    omega
  · intro p hp _
    rw [List.mem_singleton.mp hp]
    exact l3
  · intro p hp x hx
    rw [List.mem_singleton.mp hp] at hx
    rw [z x hx]
    exact Nat.zero_le _
  · rw [wr_one]
    have : valF (List.replicate (m + 1) 0) pt = 0 := by
      unfold valF
      show 0 + dot (List.replicate m 0) pt = 0
      rw [dot_zero]
    unfold wrt
    show pw w (valF (List.replicate (m + 1) 0) pt) = wr pt []
    rw [this]
    rfl
end K13

set_option Elab.async false
set_option linter.all false
set_option maxRecDepth 100000
set_option maxHeartbeats 4000000
namespace K13
open PySem PySem.Spec PyProof.Rows L2 CK SX NM
theorem Pcs.take {H : Hp} {vs : List V} {ps : List Pn} (h : Pcs H vs ps) (k : Nat) : Pcs H (vs.take k) (ps.take k) := by
  induction h generalizing k with
  | nil => simp; exact .nil
  | cons e _ ih =>
    cases k with
    | zero => exact .nil
    | succ k => exact .cons e (ih k)
theorem Pcs.drop {H : Hp} {vs : List V} {ps : List Pn} (h : Pcs H vs ps) (k : Nat) : Pcs H (vs.drop k) (ps.drop k) := by
  induction h generalizing k with
  | nil => simp; exact .nil
  | cons e h ih =>
    cases k with
    | zero => exact .cons e h
    | succ k => exact ih k
theorem cut_take (vs : List V) (k : Nat) : cutV vs none (some (k : Int)) = vs.take k := cutV_take vs k
theorem cut_drop1 (vs : List V) (k : Nat) : cutV vs (some ((k : Int) + 1)) none = vs.drop (k + 1) := by
  rw [show ((k : Int) + 1) = ((k + 1 : Nat) : Int) by omega, cutV_drop]
theorem cut_drop2 (vs : List V) (k : Nat) : cutV vs (some ((k : Int) + 2)) none = vs.drop (k + 2) := by
  rw [show ((k : Int) + 2) = ((k + 2 : Nat) : Int) by omega, cutV_drop]
def vSubN : V → V → V
  | .int i, .int j => .int (i - j)
  | _, _ => .non
theorem zip_subN : ∀ (f g : List Nat), f.length = g.length → (∀ (i x y : Nat), f[i]? = some x → g[i]? = some y → y ≤ x) → ∃ h : List Nat, List.zipWith vSubN (natsV f) (natsV g) = natsV h ∧ h.length = f.length ∧ addF g h = f
  | [], [], _, _ => ⟨[], rfl, rfl, rfl⟩
  | x :: f, y :: g, hl, hle => by
    obtain ⟨h, e1, e2, e3⟩ := zip_subN f g (by simpa using hl) fun i a b ha hb => hle (i + 1) a b ha hb
    have h0 := hle 0 x y rfl rfl
    refine ⟨(x - y) :: h, ?_, by simp [e2], ?_⟩
    · show V.int ((x : Int) - (y : Int)) :: List.zipWith vSubN (natsV f) (natsV g) = V.int ((x - y : Nat) : Int) :: natsV h
      rw [e1]
      congr 2
      omega
    · show (y + (x - y)) :: addF g h = x :: f
      rw [e3]
      congr 1
      omega
  | [], _ :: _, hl, _ => by simp at hl
  | _ :: _, [], hl, _ => by simp at hl
theorem natsV_app (a b : List Nat) : natsV (a ++ b) = natsV a ++ natsV b := by unfold natsV; rw [List.map_append]
theorem up_pow {i x : Nat} (hi : i < 12) (h : x ≤ 4 * 2 ^ i) : x ≤ 20000 := by
  have : 4 * 2 ^ i ≤ 4 * 2 ^ 12 := pow_le (by omega)
  have e : 4 * 2 ^ 12 = 16384 := by decide
  omega
/-- three new lists, the last one of all -/
theorem three_new {H : Hp} {c1 p2 c2 : Addr} {o1 o2 o3 : HO} (n1 : H c1 = none) (n2 : (upd H c1 o1) p2 = none) (n3 : (upd (upd H c1 o1) p2 o2) c2 = none) : Same H (upd (upd (upd H c1 o1) p2 o2) c2 o3) := ((sameNew n1).trans (sameNew n2)).trans (sameNew n3)
theorem pl_cut {H H' : Hp} {c2 : Addr} {vs us ws : List V} {ps Y : List Pn} {k j : Nat} (hp : Pcs H vs ps) (hY : Pcs H us Y) (s : Same H H') (e : H' c2 = some (.lst (vs.take k ++ us ++ ws))) (ew : ws = vs.drop j) : PL H' c2 (ps.take k ++ Y ++ ps.drop j) := by
  subst ew
  exact ⟨_, e, (((hp.take k).app hY).app (hp.drop j)).same s⟩
section
variable {P : Program} {w : World} {K : PySem.W.Frag} {mg : Str → Option Value} {base : Heap} {C : Addr}
/-- what a step promises of the list it gives -/
def Step (H : Hp) (g : Addr) (n i m : Nat) (ps : List Pn) (Q : VK) : Prop := ∀ r qs H', SameX g H H' → Gn n H' g → r ≠ g → PL H' r qs → Stp (i + 1) m qs → SameW m ps qs → Q (.ref r) H'
def sp_parted : Sp := fun vs H Q _ => ∃ (g l : Addr) (m k i n : Nat) (ps : List Pn), vs = [.ref g, .int m, .ref l, .int k] ∧ PL H l ps ∧ Stp i m ps ∧ i < 12 ∧ m ≤ 3 ∧ k < ps.length ∧ l ≠ g ∧ Gn (n + 10) H g ∧ Step H g n i m ps Q
theorem c_law_parted (T : Txt K mg C) : C8.Cal P w K mg base 3 "_law_parted" sp_parted [] := by
  refine calF T.d_law_parted sc_law_parted (fun vs H Q E h => ?_) (fun f0 cdv A outer s H vs Q E hr h => ?_)
  · obtain ⟨_, _, _, _, _, _, _, rfl, _⟩ := h; rfl
  · obtain ⟨g, l, m, k, i, n, ps, rfl, ⟨vs, hl, hp⟩, st, hi, m3, hk, lg, G, q⟩ := h
    have lv := hp.len
    have few := st.few
    refine ⟨_, (pss_cons (ps_asg (pe_ix ix_list (pv 2) (pv 3) (fun _ _ => rfl)) (pg_two (K := K) (i := 4) (j := 5) rfl rfl sc_law_parted.nd rfl rfl (Or.inl rfl) (Or.inl rfl)))
    (pss_cons (ps_set (i := 6) sc_law_parted.nd rfl (Or.inl rfl) (pe_callTy call_tupL (by rfl) T.m_tuple (by decide +kernel) (pa_cons (pe_lc (own := [("_law_number", 7)]) (by rfl) sc_law_parted.nd (pi_tup (pv 5)) (blkOk_by (N := ["_law_generator_here", "_law_many", "_law_pieces", "_law_at", "_law_word_here", "_law_form_here", "_law_first", "_law_number", "_law_rest", "_law_taken"]) (sc := C8.fnScope (topS 56)) (own := [("_law_number", 7)]) (by decide +kernel)) (fun _ _ _ _ _ => (pg_name (i := 7) sc_law_parted.nd rfl (Or.inl rfl))) (fun _ _ _ _ _ => pts_nil) (fun _ _ _ _ _ => (C8.pe_c (c_law_random T) hr (by decide) (by rfl) (pa_cons (pv 0) (pa_cons (pe_op op_add (pv 7) pe_int) pa_nil))))) pa_nil)))
    (pss_cons (ps_set (i := 8) sc_law_parted.nd rfl (Or.inl rfl) (pe_callTy call_tupL (by rfl) T.m_tuple (by decide +kernel) (pa_cons (pe_lc (own := [("_law_number", 7), ("_law_taken", 9)]) (by rfl) sc_law_parted.nd (pi_zipB (K := K) rfl (by rfl) T.m_zip (pa_cons (pv 5) (pa_cons (pv 6) pa_nil))) (blkOk_by (N := ["_law_generator_here", "_law_many", "_law_pieces", "_law_at", "_law_word_here", "_law_form_here", "_law_first", "_law_number", "_law_rest", "_law_taken"]) (sc := C8.fnScope (topS 56)) (own := [("_law_number", 7), ("_law_taken", 9)]) (by decide +kernel)) (fun _ _ _ _ _ => (pg_two (K := K) (i := 7) (j := 9) rfl rfl sc_law_parted.nd rfl rfl (Or.inl rfl) (Or.inl rfl))) (fun _ _ _ _ _ => pts_nil) (fun _ _ _ _ _ => (pe_op op_sub (pv 7) (pv 9)))) pa_nil)))
    (pss_one (ps_ret (pe_op op_cat (pe_op op_cat (pe_slice sl_list (pv 2) po_none (po_some (pv 3))) (pe_lst (pa_cons (pe_tup (pa_cons (pv 4) (pa_cons (pv 6) pa_nil))) (pa_cons (pe_tup (pa_cons (pv 4) (pa_cons (pv 8) pa_nil))) pa_nil)))) (pe_slice sl_list (pv 2) (po_some (pe_op op_add (pv 3) pe_int)) po_none))))))), ?_⟩
    have hk' : vs[k]? = some (vs[k]'(by omega)) := List.getElem?_eq_getElem (by omega)
    obtain ⟨a, p, ea, hpi, pc⟩ := hp.get hk'
    rw [ea] at hk'
    obtain ⟨w, f⟩ := p
    have mem := List.mem_of_getElem? hpi
    have lf : f.length = m + 1 := st.len _ mem
    have upf : ∀ x ∈ f, x ≤ 4 * 2 ^ i := st.up _ mem
    obtain ⟨fa, e1, e2⟩ := pc
    have e2' : H fa = some (.tup (natsV f)) := e2
    refine ⟨_, rfl, _, rfl, l, _, k, _, rfl, rfl, .inl (.inl hl), atI_nat hk', a, _, rfl, .inl (.inl e1), rfl, _, _, rfl, _, _, rfl, rfl, ?_⟩
    refine ⟨_, rfl, fa, rfl, ⟨_, .inl (.inl e2')⟩, fun D hD => ?_⟩
    have Dg := G.ne hD
    refine lc_tup (K := K) (a := fa) (xs := natsV f) (fun j H1 => SameX g H H1 ∧ Gn (n + (5 - j)) H1 g ∧ ∃ f1 : List Nat, H1 D = some (.lst (natsV f1)) ∧ f1.length = j ∧ ∀ (t x y : Nat), f[t]? = some x → f1[t]? = some y → y ≤ x)
      ⟨sameX_new hD, (G.upd Dg).le (by omega), [], by rw [upd_same]; rfl, rfl, fun t x y _ h => by simp at h⟩ (fun j H1 _ p => .inl (.inl (p.1.tup G e2'))) (fun j y H1 hj pI => ?_) fun H1 pI => ?_
    · obtain ⟨s1, G1, f1, hD1, l1, le1⟩ := pI
      obtain ⟨x, mx, hx, rfl⟩ := get_nat hj
      have jl := (List.getElem?_eq_some_iff.mp hx).1
      have ux := up_pow hi (upf x mx)
      have e5 : n + (5 - j) = n + (5 - (j + 1)) + 1 := by omega
      rw [e5] at G1
      refine ⟨rfl, _, rfl, _, rfl, _, _, rfl, rfl, g, _, _, rfl, G1, by omega, by omega, fun r H2 s2 G2 r0 r1 => ?_⟩
      obtain ⟨rn, rfl⟩ : ∃ t : Nat, r = t := ⟨r.toNat, by omega⟩
      refine ⟨_, s2 _ _ Dg hD1, by rw [natsV_len, l1]; exact small5 (by omega), (s1.trans s2).upd2 hD, G2.upd Dg, f1 ++ [rn], ?_, by rw [List.length_append, l1]; rfl, fun t a b ha hb => ?_⟩
      · rw [upd_same, natsV_app]
        rfl
      · by_cases z : t < f1.length
        · rw [List.getElem?_append_left z] at hb
          exact le1 t a b ha hb
        · have tl : t = f1.length := by
            have := (List.getElem?_eq_some_iff.mp hb).1
            rw [List.length_append, List.length_singleton] at this
            omega
          rw [tl, List.getElem?_append_right (Nat.le_refl _), Nat.sub_self] at hb
          cases hb
          rw [tl, l1, hx] at ha
          cases ha
          omega
    · obtain ⟨s1, G1, f1, hD1, l1, le1⟩ := pI
      rw [natsV_len] at l1 G1
      refine ⟨D, _, rfl, hD1, fun t1 H2 s2 h1 => ?_⟩
      have s12 := s1.trans (SameX.of s2)
      have G2 := (G1.same s2).le (m := n) (by omega)
      have e2a : H2 fa = some (.tup (natsV f)) := s12.tup G e2'
      obtain ⟨f2, ez, l2, ead⟩ := zip_subN f f1 l1.symm le1
      refine ⟨_, rfl, _, rfl, .T, .T, fa, t1, natsV f, natsV f1, rfl, .inl (.inl e2a), .inl (.inl h1), ?_⟩
      refine fun D2 hD2 => lcZ_map vSubN (by rw [natsV_len, natsV_len, l1]) (by rw [natsV_len]; exact small5 (by omega)) (fun H' s => ⟨.inl (.inl (s _ _ e2a)), .inl (.inl (s _ _ h1))⟩) (fun j x y H' R hx hy s q' => ?_) hD2 fun H3 s3 hL => ?_
      · obtain ⟨x', _, _, rfl⟩ := get_nat hx
        obtain ⟨y', _, _, rfl⟩ := get_nat hy
        exact ⟨rfl, _, rfl, _, rfl, _, _, rfl, rfl, q' _ (Same.refl _)⟩
      · rw [ez] at hL
        refine ⟨D2, _, rfl, hL, fun t2 H4 s4 h4 => ?_⟩
        have s34 := s3.trans s4
        have hl4 : H4 l = some (.lst vs) := s34 _ _ (s12 _ _ lg hl)
        have hp4 : Pcs H4 vs ps := (hp.mono fun a xs e => s12.tup G e).same s34
        have h1' := s34 _ _ h1
        have G4 := G2.same s34
        have sx4 := s12.trans (.of s34)
        refine ⟨_, rfl, _, rfl, k, rfl, l, vs, rfl, .inl (.inl hl4), fun p1 np1 => ⟨_, rfl, _, rfl, by show 2 ≤ sizeLine; decide, fun ta na => ⟨_, rfl, _, rfl, by show 2 ≤ sizeLine; decide, fun tb nb => ⟨by show 2 ≤ sizeLine; decide, fun L2 nL2 => ?_⟩⟩⟩⟩
        have sp1 := sameNew (o := .lst (cutV vs none (some (k : Int)))) np1
        have sa := sameNew (o := .tup [.str (S w), .ref t1]) na
        have sb := sameNew (o := .tup [.str (S w), .ref t2]) nb
        have sL := sameNew (o := .lst [.ref ta, .ref tb]) nL2
        have sx5 := (sp1.trans sa).trans (sb.trans sL)
        have ep1 := sL _ _ (sb _ _ (sa _ _ (upd_same (H := H4) (a := p1) (o := .lst (cutV vs none (some (k : Int)))))))
        have eta := sL _ _ (sb _ _ (upd_same (H := upd H4 p1 (.lst (cutV vs none (some (k : Int))))) (a := ta) (o := .tup [.str (S w), .ref t1])))
        have etb := sL _ _ (upd_same (H := upd (upd H4 p1 (.lst (cutV vs none (some (k : Int))))) ta (.tup [.str (S w), .ref t1])) (a := tb) (o := .tup [.str (S w), .ref t2]))
        have eL := upd_same (H := upd (upd (upd H4 p1 (.lst (cutV vs none (some (k : Int))))) ta (.tup [.str (S w), .ref t1])) tb (.tup [.str (S w), .ref t2])) (a := L2) (o := .lst [.ref ta, .ref tb])
        generalize upd (upd (upd (upd H4 p1 (.lst (cutV vs none (some (k : Int))))) ta (.tup [.str (S w), .ref t1])) tb (.tup [.str (S w), .ref t2])) L2 (.lst [.ref ta, .ref tb]) = H5 at sx5 ep1 eta etb eL
        rw [cut_take] at ep1
        have lt : (vs.take k).length = k := by rw [List.length_take]; omega
        refine ⟨p1, L2, _, _, rfl, rfl, ep1, eL, by rw [lt, sizeLine_eq]; simp; omega, fun c1 nc1 => ⟨_, rfl, _, rfl, _, _, rfl, rfl, (k : Int) + 1, rfl, l, vs, rfl, .inl (.inl (sameNew nc1 _ _ (sx5 _ _ hl4))), fun p2 np2 => ?_⟩⟩
        refine ⟨c1, p2, _, _, rfl, rfl, sameNew np2 _ _ upd_same, upd_same, by rw [cut_drop1, List.length_append, lt, List.length_drop, sizeLine_eq]; simp; omega, fun c2 nc2 => ?_⟩
        have s3n := three_new (o3 := .lst (vs.take k ++ [.ref ta, .ref tb] ++ cutV vs (some ((k : Int) + 1)) none)) nc1 np2 nc2
        have hY : Pcs H5 [.ref ta, .ref tb] [(w, f1), (w, f2)] := .cons ⟨t1, eta, sx5 _ _ h1'⟩ (.cons ⟨t2, etb, sx5 _ _ h4⟩ .nil)
        have pl := pl_cut (H' := _) (k := k) (j := k + 1) (hp4.same sx5) hY s3n upd_same (cut_drop1 vs k)
        obtain ⟨st', sw⟩ := stp_parted st hpi ead (by omega) (by omega)
        exact q c2 _ _ (sx4.trans (.of (sx5.trans s3n))) ((G4.same sx5).same s3n) (((((G4.same sx5).same (sameNew nc1)).same (sameNew np2)).ne nc2)) pl st' sw
end
end K13

set_option Elab.async false
set_option linter.all false
set_option maxRecDepth 100000
set_option maxHeartbeats 4000000
namespace K13
open PySem PySem.Spec PyProof.Rows L2 CK SX NM
theorem shaped_natL (f : F) : SeqAt.shaped (.list (f.map fun n : Nat => PyData.int (n : Nat))) = true := by
  unfold SeqAt.shaped
  rw [PyData.canLay0, lay_nats, PyData.depth, deep_nats]
  rfl
theorem eqv_natL (f g : F) : PyData.eqv (.list (f.map fun n : Nat => PyData.int (n : Nat))) (.list (g.map fun n : Nat => PyData.int (n : Nat))) = decide (f = g) := by
  simp only [PyData.eqv, eqvAll_nats]
theorem dp_natL {K : PySem.W.Frag} {H : Hp} {l : Addr} {f : F} (h : H l = some (.lst (natsV f))) : Dp K H (.ref l) (.list (f.map fun n : Nat => PyData.int (n : Nat))) := .lst (.inl (.inl h)) (dpAll_nats f)
theorem shaped_nil : SeqAt.shaped (.list []) = true := by decide +kernel
theorem shaped_dF (f : F) : SeqAt.shaped (dF f) = true := by
  unfold SeqAt.shaped dF
  rw [PyData.canLay0, lay_nats, PyData.depth, deep_nats]
  rfl
theorem eqv_dF (f g : F) : PyData.eqv (dF f) (dF g) = decide (f = g) := by
  unfold dF
  simp only [PyData.eqv, eqvAll_nats]
def odd (x : Nat) : Bool := decide (x % 2 ≠ 0)
theorem SameW.rfl' {m : Nat} {ps : List Pn} : SameW m ps ps := fun _ _ => rfl
theorem SameW.trans {m : Nat} {a b c : List Pn} (h : SameW m a b) (g : SameW m b c) : SameW m a c := fun pt hp => (g pt hp).trans (h pt hp)
section
variable {P : Program} {w : World} {K : PySem.W.Frag} {mg : Str → Option Value} {base : Heap} {C : Addr}
def sp_doubled : Sp := fun vs H Q _ => ∃ (g l : Addr) (m k i n : Nat) (ps : List Pn), vs = [.int m, .ref l, .int k] ∧ PL H l ps ∧ Stp i m ps ∧ i < 12 ∧ m ≤ 3 ∧ k < ps.length ∧ (∀ p, ps[k]? = some p → p.1.length < 12) ∧ l ≠ g ∧ Gn n H g ∧ Step H g n i m ps Q
theorem c_law_doubled (T : Txt K mg C) : C8.Cal P w K mg base 1 "_law_doubled" sp_doubled [] := by
  refine calF T.d_law_doubled sc_law_doubled (fun vs H Q E h => ?_) (fun f0 cdv A outer s H vs Q E hr h => ?_)
  · obtain ⟨_, _, _, _, _, _, _, rfl, _⟩ := h; rfl
  · obtain ⟨g, l, m, k, i, n, ps, rfl, ⟨vs, hl, hp⟩, st, hi, m3, hk, hw, lg, G, q⟩ := h
    have lv := hp.len
    have few := st.few
    refine ⟨_, (pss_cons (ps_asg (pe_ix ix_list (pv 1) (pv 2) (fun _ _ => rfl)) (pg_two (K := K) (i := 3) (j := 4) rfl rfl sc_law_doubled.nd rfl rfl (Or.inl rfl) (Or.inl rfl)))
    (pss_cons (ps_if (pt_cmpR (op_neD hr.units) (pe_lc (own := [("_law_number", 5)]) (by rfl) sc_law_doubled.nd (pi_tup (pv 4)) (blkOk_by (N := ["_law_many", "_law_pieces", "_law_at", "_law_word_here", "_law_form_here", "_law_number"]) (sc := C8.fnScope (topS 57)) (own := [("_law_number", 5)]) (by decide +kernel)) (fun _ _ _ _ _ => (pg_name (i := 5) sc_law_doubled.nd rfl (Or.inl rfl))) (fun _ _ _ _ _ => (pts_one (pt_cmpR op_ne (pe_op op_modZ (pe_callTy call_int1 (by rfl) T.m_int (by decide +kernel) (pa_cons (pv 5) pa_nil)) pe_int) pe_int (nomark _)))) (fun _ _ _ _ _ => (pv 5))) (pe_lst pa_nil) (nomark _))
    (pss_one (ps_ret (pv 1)))
    pss_nil)
    (pss_one (ps_ret (pe_op op_cat (pe_op op_cat (pe_slice sl_list (pv 1) po_none (po_some (pv 2))) (pe_lst (pa_cons (pe_tup (pa_cons (pe_op op_add_str (pv 3) (pv 3)) (pa_cons (pe_callTy call_tupL (by rfl) T.m_tuple (by decide +kernel) (pa_cons (pe_lc (own := [("_law_number", 5)]) (by rfl) sc_law_doubled.nd (pi_tup (pv 4)) (blkOk_by (N := ["_law_many", "_law_pieces", "_law_at", "_law_word_here", "_law_form_here", "_law_number"]) (sc := C8.fnScope (topS 57)) (own := [("_law_number", 5)]) (by decide +kernel)) (fun _ _ _ _ _ => (pg_name (i := 5) sc_law_doubled.nd rfl (Or.inl rfl))) (fun _ _ _ _ _ => pts_nil) (fun _ _ _ _ _ => (pe_op op_fdivZ (pv 5) pe_int))) pa_nil)) pa_nil))) pa_nil))) (pe_slice sl_list (pv 1) (po_some (pe_op op_add (pv 2) pe_int)) po_none)))))), ?_⟩
    have hk' : vs[k]? = some (vs[k]'(by omega)) := List.getElem?_eq_getElem (by omega)
    obtain ⟨a, p, ea, hpi, pc⟩ := hp.get hk'
    rw [ea] at hk'
    obtain ⟨w, f⟩ := p
    have mem := List.mem_of_getElem? hpi
    have lf : f.length = m + 1 := st.len _ mem
    have w12 : w.length < 12 := hw _ hpi
    obtain ⟨fa, e1, e2⟩ := pc
    have e2' : H fa = some (.tup (natsV f)) := e2
    refine ⟨_, rfl, _, rfl, l, _, k, _, rfl, rfl, .inl (.inl hl), atI_nat hk', a, _, rfl, .inl (.inl e1), rfl, _, _, rfl, _, _, rfl, rfl, ?_⟩
    refine ⟨_, rfl, fa, rfl, ⟨_, .inl (.inl e2')⟩, fun D hD => ?_⟩
    refine lc_tup (K := K) (a := fa) (xs := natsV f) (fun j H1 => Same H H1 ∧ H1 D = some (.lst (natsV ((f.take j).filter odd)))) ⟨sameNew hD, by rw [upd_same]; rfl⟩ (fun j H1 _ p => .inl (.inl (p.1 _ _ e2'))) (fun j y H1 hj pI => ?_) fun H1 pI => ?_
    · obtain ⟨s1, hD1⟩ := pI
      obtain ⟨x, mx, hx, rfl⟩ := get_nat hj
      have eT : f.take (j + 1) = f.take j ++ [x] := by rw [List.take_succ, hx]; rfl
      refine ⟨rfl, _, rfl, .inl ⟨_, rfl, x, 2, rfl, rfl, by decide, rfl, _, rfl, ?_⟩⟩
      rw [eT, List.filter_append]
      by_cases z : x % 2 = 0
      · refine iteNS (by rw [z]; rfl) ⟨s1, ?_⟩
        have : odd x = false := by unfold odd; simp [z]
        rw [List.filter_cons_of_neg (by rw [this]; exact Bool.false_ne_true), List.filter_nil, List.append_nil]
        exact hD1
      · have hx' : odd x = true := decide_eq_true z
        refine ite2 (fun _ => ?_) (fun e => absurd (by rw [decide_eq_false (fun y => z (by have := V.int.inj y; omega))]; rfl) e)
        refine ⟨_, rfl, _, hD1, ?_, same_upd2 hD s1, ?_⟩
        · have := List.length_filter_le odd (f.take j)
          rw [List.length_take] at this
          rw [natsV_len]
          exact small5 (by omega)
        · rw [upd_same, List.filter_cons_of_pos hx', List.filter_nil, natsV_app]
          rfl
    · obtain ⟨s1, hD1⟩ := pI
      rw [natsV_len, List.take_length] at hD1
      refine ⟨by show 0 ≤ sizeLine; omega, fun M hM => ?_⟩
      have sM := s1.trans (sameNew (o := .lst []) hM)
      refine ⟨_, .list ([] : List PyData), dp_natL (sameNew hM _ _ hD1), .lst (.inl (.inl upd_same)) .nil, shaped_natL _, shaped_nil, _, rfl, ?_⟩
      have ev : PyData.eqv (.list ((f.filter odd).map fun n : Nat => PyData.int (n : Nat))) (.list []) = decide (f.filter odd = []) := eqv_natL (f.filter odd) []
      rw [ev]
      by_cases z : f.filter odd = []
      · rw [decide_eq_true z]
        refine iteF ?_
        have he : ∀ x ∈ f, x % 2 = 0 := fun x hx => Classical.byContradiction fun y => by
          have : x ∈ f.filter odd := List.mem_filter.mpr ⟨hx, decide_eq_true y⟩
          rw [z] at this
          cases this
        have hlM := sM _ _ hl
        have eM := sM _ _ e2'
        generalize upd H1 M (.lst []) = H2 at sM hlM eM
        refine ⟨_, rfl, _, rfl, k, rfl, l, vs, rfl, .inl (.inl hlM), fun p1 np1 => ⟨_, rfl, _, rfl, _, _, rfl, rfl, by rw [S_len, sizeLine_eq]; have hwf : List.length ((w, f) : Pn).1 = w.length := rfl; omega, ?_⟩⟩
        rw [S_cat]
        have sp1 := sameNew (o := .lst (cutV vs none (some (k : Int)))) np1
        have ep1 := upd_same (H := H2) (a := p1) (o := .lst (cutV vs none (some (k : Int))))
        have eM1 := sp1 _ _ eM
        have hl1 := sp1 _ _ hlM
        generalize upd H2 p1 (.lst (cutV vs none (some (k : Int)))) = H3 at sp1 ep1 eM1 hl1
        refine ⟨_, rfl, fa, rfl, ⟨_, .inl (.inl eM1)⟩, fun D2 hD2 => ?_⟩
        refine lc_tup (K := K) (a := fa) (xs := natsV f) (fun j H4 => Same H3 H4 ∧ H4 D2 = some (.lst (natsV ((f.take j).map fun x => x / 2)))) ⟨sameNew hD2, by rw [upd_same]; rfl⟩ (fun j H4 _ p => .inl (.inl (p.1 _ _ eM1))) (fun j y H4 hj pI => ?_) fun H4 pI => ?_
        · obtain ⟨s4, hD4⟩ := pI
          obtain ⟨x, mx, hx, rfl⟩ := get_nat hj
          have eT : f.take (j + 1) = f.take j ++ [x] := by rw [List.take_succ, hx]; rfl
          refine ⟨rfl, _, rfl, x, 2, rfl, rfl, by decide, by decide, _, hD4, ?_, same_upd2 hD2 s4, ?_⟩
          · rw [natsV_len, List.length_map, List.length_take]
            exact small5 (by omega)
          · rw [upd_same, eT, List.map_append, natsV_app]
            rfl
        · obtain ⟨s4, hD4⟩ := pI
          rw [natsV_len, List.take_length] at hD4
          refine ⟨D2, _, rfl, hD4, fun t2 H5 s5 h5 => ⟨by show 2 ≤ sizeLine; decide, fun ta na => ⟨by show 1 ≤ sizeLine; decide, fun L2 nL2 => ?_⟩⟩⟩
          have sa := sameNew (o := .tup [.str (S (w ++ w)), .ref t2]) na
          have sL := sameNew (o := .lst [.ref ta]) nL2
          have s35 := s4.trans s5
          have ep2 := sL _ _ (sa _ _ (s35 _ _ ep1))
          have hl2 := sL _ _ (sa _ _ (s35 _ _ hl1))
          have eta := sL _ _ (upd_same (H := H5) (a := ta) (o := .tup [.str (S (w ++ w)), .ref t2]))
          have et2 := sL _ _ (sa _ _ h5)
          have eL := upd_same (H := upd H5 ta (.tup [.str (S (w ++ w)), .ref t2])) (a := L2) (o := .lst [.ref ta])
          have sx6 := (sM.trans sp1).trans ((s35.trans sa).trans sL)
          generalize upd (upd H5 ta (.tup [.str (S (w ++ w)), .ref t2])) L2 (.lst [.ref ta]) = H6 at ep2 hl2 eta et2 eL sx6
          rw [cut_take] at ep2
          have lt : (vs.take k).length = k := by rw [List.length_take]; omega
          refine ⟨p1, L2, _, _, rfl, rfl, ep2, eL, by rw [lt, sizeLine_eq]; simp; omega, fun c1 nc1 => ⟨_, rfl, _, rfl, _, _, rfl, rfl, (k : Int) + 1, rfl, l, vs, rfl, .inl (.inl (sameNew nc1 _ _ hl2)), fun p2 np2 => ?_⟩⟩
          refine ⟨c1, p2, _, _, rfl, rfl, sameNew np2 _ _ upd_same, upd_same, by rw [cut_drop1, List.length_append, lt, List.length_drop, sizeLine_eq]; simp; omega, fun c2 nc2 => ?_⟩
          have s3n := three_new (o3 := .lst (vs.take k ++ [.ref ta] ++ cutV vs (some ((k : Int) + 1)) none)) nc1 np2 nc2
          have hY : Pcs H6 [.ref ta] [(w ++ w, f.map fun x => x / 2)] := .one ⟨t2, eta, et2⟩
          have pl := pl_cut (H' := _) (k := k) (j := k + 1) (hp.same sx6) hY s3n upd_same (cut_drop1 vs k)
          obtain ⟨st', sw⟩ := stp_doubled st hpi w12 he
          have G6 := G.same sx6
          exact q c2 _ _ (.of (sx6.trans s3n)) (G6.same s3n) (((G6.same (sameNew nc1)).same (sameNew np2)).ne nc2) pl st' sw
      · rw [decide_eq_false z]
        refine iteT ⟨_, rfl, q l ps _ (.of sM) (G.same sM) lg ⟨vs, sM _ _ hl, hp.same sM⟩ (st.le (by omega)) SameW.rfl'⟩
def sp_taken_out : Sp := fun vs H Q _ => ∃ (g l : Addr) (m k i n : Nat) (ps : List Pn), vs = [.int m, .ref l, .int k] ∧ PL H l ps ∧ Stp i m ps ∧ i < 12 ∧ m ≤ 3 ∧ k < ps.length ∧ l ≠ g ∧ Gn n H g ∧ Step H g n i m ps Q
theorem c_law_taken_out (T : Txt K mg C) : C8.Cal P w K mg base 2 "_law_taken_out" sp_taken_out [] := by
  refine calF T.d_law_taken_out sc_law_taken_out (fun vs H Q E h => ?_) (fun f0 cdv A outer s H vs Q E hr h => ?_)
  · obtain ⟨_, _, _, _, _, _, _, rfl, _⟩ := h; rfl
  · obtain ⟨g, l, m, k, i, n, ps, rfl, ⟨vs, hl, hp⟩, st, hi, m3, hk, lg, G, q⟩ := h
    have lv := hp.len
    have few := st.few
    refine ⟨_, (pss_cons (ps_asg (pe_ix ix_list (pv 1) (pv 2) (fun _ _ => rfl)) (pg_two (K := K) (i := 3) (j := 4) rfl rfl sc_law_taken_out.nd rfl rfl (Or.inl rfl) (Or.inl rfl)))
    (pss_cons (ps_if (pt_cmpR op_eq (pe_ix ix_tup (pv 4) pe_int (fun _ _ => rfl)) pe_int (nomark _))
    (pss_one (ps_ret (pv 1)))
    pss_nil)
    (pss_cons (ps_set (i := 5) sc_law_taken_out.nd rfl (Or.inl rfl) (pe_lst (pa_cons (pe_tup (pa_cons (pv 3) (pa_cons (C8.pe_c (c_law_plain T) hr (by decide) (by rfl) (pa_cons (pv 0) (pa_cons pe_int pa_nil))) pa_nil))) (pa_cons (pe_tup (pa_cons (pv 3) (pa_cons (pe_op op_catS (pe_tup (pa_cons (pe_op op_sub (pe_ix ix_tup (pv 4) pe_int (fun _ _ => rfl)) pe_int) pa_nil)) (pe_slice sl_drop (pv 4) (po_some pe_int) po_none)) pa_nil))) pa_nil))))
    (pss_one (ps_ret (pe_op op_cat (pe_op op_cat (pe_slice sl_list (pv 1) po_none (po_some (pv 2))) (pv 5)) (pe_slice sl_list (pv 1) (po_some (pe_op op_add (pv 2) pe_int)) po_none))))))), ?_⟩
    have hk' : vs[k]? = some (vs[k]'(by omega)) := List.getElem?_eq_getElem (by omega)
    obtain ⟨a, p, ea, hpi, pc⟩ := hp.get hk'
    rw [ea] at hk'
    obtain ⟨w, f⟩ := p
    have mem := List.mem_of_getElem? hpi
    have lf : f.length = m + 1 := st.len _ mem
    obtain ⟨c, t, rfl⟩ : ∃ c t, f = c :: t := by
      cases f with
      | nil => simp at lf
      | cons c t => exact ⟨c, t, rfl⟩
    obtain ⟨fa, e1, e2⟩ := pc
    have e2' : H fa = some (.tup (natsV (c :: t))) := e2
    refine ⟨_, rfl, _, rfl, l, _, k, _, rfl, rfl, .inl (.inl hl), atI_nat hk', a, _, rfl, .inl (.inl e1), rfl, _, _, rfl, _, _, rfl, rfl, ?_⟩
    refine ⟨_, rfl, fa, _, 0, _, rfl, rfl, .inl (.inl e2'), atI_nat (j := 0) rfl, rfl, _, rfl, ?_⟩
    cases c with
    | zero => exact ite2 (fun _ => ⟨_, rfl, q l ps _ (.refl _ _) G lg ⟨vs, hl, hp⟩ (st.le (by omega)) SameW.rfl'⟩) (fun e => absurd (decide_eq_true rfl) e)
    | succ c =>
      refine ite2 (fun e => absurd (V.int.inj (of_decide_eq_true e)) (by omega)) (fun _ => ?_)
      refine ⟨_, rfl, _, rfl, m, 1, rfl, m3, fun p1 H1 s1 h1 => ⟨by show 2 ≤ sizeLine; decide, fun ta na => ⟨_, rfl, _, rfl, fa, _, 0, _, rfl, rfl, .inl (.inl (sameNew na _ _ (s1 _ _ e2'))), atI_nat (j := 0) rfl, _, _, rfl, rfl, by show 1 ≤ sizeLine; decide, fun tb nb => ?_⟩⟩⟩
      have sa := sameNew (o := .tup [.str (S w), .ref p1]) na
      have sb := sameNew (o := .tup [.int (((c + 1 : Nat) : Int) - 1)]) nb
      have e2b := sb _ _ (sa _ _ (s1 _ _ e2'))
      refine ⟨_, rfl, 1, rfl, fa, _, 1, rfl, rfl, rfl, e2b, fun p2 H2 s2 h2 => ?_⟩
      have etb := s2 _ _ (upd_same (H := upd H1 ta (.tup [.str (S w), .ref p1])) (a := tb) (o := .tup [.int (((c + 1 : Nat) : Int) - 1)]))
      have h2' : H2 p2 = some (.tup (natsV t)) := h2
      refine ⟨tb, p2, _, _, rfl, rfl, etb, h2', by rw [natsV_len]; simp at lf ⊢; omega, fun p3 H3 s3 h3 => ⟨by show 2 ≤ sizeLine; decide, fun tc nc => ⟨by show 2 ≤ sizeLine; decide, fun L2 nL2 => ?_⟩⟩⟩
      have h3' : H3 p3 = some (.tup (natsV (c :: t))) := by
        rw [h3]
        show some (HO.tup (V.int (((c + 1 : Nat) : Int) - 1) :: natsV t)) = some (HO.tup (V.int ((c : Nat) : Int) :: natsV t))
        rw [show (((c + 1 : Nat) : Int) - 1) = ((c : Nat) : Int) by omega]
      have sc := sameNew (o := .tup [.str (S w), .ref p3]) nc
      have sL := sameNew (o := .lst [.ref ta, .ref tc]) nL2
      have eta := sL _ _ (sc _ _ (s3 _ _ (s2 _ _ (sb _ _ (upd_same (H := H1) (a := ta) (o := .tup [.str (S w), .ref p1]))))))
      have efa := sL _ _ (sc _ _ (s3 _ _ (s2 _ _ (sb _ _ (sa _ _ h1)))))
      have etc := sL _ _ (upd_same (H := H3) (a := tc) (o := .tup [.str (S w), .ref p3]))
      have efc := sL _ _ (sc _ _ h3')
      have eL := upd_same (H := upd H3 tc (.tup [.str (S w), .ref p3])) (a := L2) (o := .lst [.ref ta, .ref tc])
      have sx5 := ((s1.trans sa).trans (sb.trans s2)).trans ((s3.trans sc).trans sL)
      generalize upd (upd H3 tc (.tup [.str (S w), .ref p3])) L2 (.lst [.ref ta, .ref tc]) = H5 at eta efa etc efc eL sx5
      have hl5 := sx5 _ _ hl
      refine ⟨_, rfl, _, rfl, k, rfl, l, vs, rfl, .inl (.inl hl5), fun p6 np6 => ⟨_, rfl, p6, L2, _, _, rfl, rfl, upd_same, sameNew np6 _ _ eL, ?_, fun c1 nc1 => ⟨_, rfl, _, rfl, _, _, rfl, rfl, (k : Int) + 1, rfl, l, vs, rfl, .inl (.inl (sameNew nc1 _ _ (sameNew np6 _ _ hl5))), fun p7 np7 => ?_⟩⟩⟩
      · rw [cut_take, List.length_take, sizeLine_eq]
        simp
        omega
      rw [cut_take] at np7 ⊢
      refine ⟨c1, p7, _, _, rfl, rfl, sameNew np7 _ _ upd_same, upd_same, by rw [cut_drop1, List.length_append, List.length_take, List.length_drop, sizeLine_eq]; simp; omega, fun c2 nc2 => ?_⟩
      try rw [cut_take] at nc1
      have s6 := sameNew (o := .lst (vs.take k)) np6
      have s3n := three_new (o3 := .lst (vs.take k ++ [.ref ta, .ref tc] ++ cutV vs (some ((k : Int) + 1)) none)) nc1 np7 nc2
      have hY : Pcs (upd H5 p6 (.lst (vs.take k))) [.ref ta, .ref tc] [(w, one1 m), (w, c :: t)] := .cons ⟨p1, s6 _ _ eta, s6 _ _ efa⟩ (.one ⟨p3, s6 _ _ etc, s6 _ _ efc⟩)
      have pl := pl_cut (H' := _) (k := k) (j := k + 1) ((hp.same sx5).same s6) hY s3n upd_same (cut_drop1 vs k)
      obtain ⟨st', sw⟩ := stp_taken st hpi
      have G6 := (G.same sx5).same s6
      exact q c2 _ _ (.of ((sx5.trans s6).trans s3n)) (G6.same s3n) (((G6.same (sameNew nc1)).same (sameNew np7)).ne nc2) pl st' sw
end
end K13

set_option Elab.async false
set_option linter.all false
set_option maxRecDepth 100000
set_option maxHeartbeats 4000000
namespace K13
open PySem PySem.Spec PyProof.Rows L2 CK SX NM
theorem at_next {vs : List V} {k : Nat} {v : V} (h : vs[k + 1]? = some v) : atI vs ((k : Int) + 1) = some v := by
  rw [show ((k : Int) + 1) = ((k + 1 : Nat) : Int) by omega]
  exact atI_nat h
section
variable {P : Program} {w : World} {K : PySem.W.Frag} {mg : Str → Option Value} {base : Heap} {C : Addr}
def sp_moved : Sp := fun vs H Q _ => ∃ (g l : Addr) (m k i n : Nat) (ps : List Pn), vs = [.int m, .ref l, .int k] ∧ PL H l ps ∧ Stp i m ps ∧ i < 12 ∧ m ≤ 3 ∧ k < ps.length ∧ l ≠ g ∧ Gn n H g ∧ Step H g n i m ps Q
theorem c_law_moved (T : Txt K mg C) : C8.Cal P w K mg base 2 "_law_moved" sp_moved [] := by
  refine calF T.d_law_moved sc_law_moved (fun vs H Q E h => ?_) (fun f0 cdv A outer s H vs Q E hr h => ?_)
  · obtain ⟨_, _, _, _, _, _, _, rfl, _⟩ := h; rfl
  · obtain ⟨g, l, m, k, i, n, ps, rfl, ⟨vs, hl, hp⟩, st, hi, m3, hk, lg, G, q⟩ := h
    have lv := hp.len
    have few := st.few
    refine ⟨_, (pss_cons (ps_asg (pe_ix ix_list (pv 1) (pv 2) (fun _ _ => rfl)) (pg_two (K := K) (i := 3) (j := 4) rfl rfl sc_law_moved.nd rfl rfl (Or.inl rfl) (Or.inl rfl)))
    (pss_cons (ps_if (PW.pt (pw_or (pt_cmpR op_eq (pv 3) pe_str (nomark _)) (pw_or (pt_cmpR op_eq (pe_op op_add (pv 2) pe_int) (pe_callB call_len_seq (by rfl) T.m_len (by decide +kernel) (pa_cons (pv 1) pa_nil)) (nomark _)) (pw_or1 (pt_cmpR (op_neD hr.units) (pe_ix ix_tup (pe_ix ix_list (pv 1) (pe_op op_add (pv 2) pe_int) (fun _ _ => rfl)) pe_int (fun _ _ => rfl)) (C8.pe_c (c_law_plain T) hr (by decide) (by rfl) (pa_cons (pv 0) (pa_cons pe_int pa_nil))) (nomark _))))))
    (pss_one (ps_ret (pv 1)))
    pss_nil)
    (pss_cons (ps_set (i := 5) sc_law_moved.nd rfl (Or.inl rfl) (pe_ix ix_tup (pe_ix ix_list (pv 1) (pe_op op_add (pv 2) pe_int) (fun _ _ => rfl)) pe_int (fun _ _ => rfl)))
    (pss_cons (ps_if (pt_cmpR op_ne (pe_slice C8.sl_txt (pv 5) po_none (po_some pe_int)) (pe_slice C8.sl_txt (pv 3) po_none (po_some pe_int)) (nomark _))
    (pss_one (ps_ret (pv 1)))
    pss_nil)
    (pss_cons (ps_set (i := 6) sc_law_moved.nd rfl (Or.inl rfl) (pe_lst (pa_cons (pe_tup (pa_cons (pe_slice C8.sl_txt (pv 3) po_none (po_some pe_int)) (pa_cons (C8.pe_c (c_law_plain T) hr (by decide) (by rfl) (pa_cons (pv 0) (pa_cons pe_int pa_nil))) pa_nil))) (pa_cons (pe_tup (pa_cons (pe_op op_add_str (pe_slice C8.sl_txt (pv 3) (po_some pe_int) po_none) (pe_slice C8.sl_txt (pv 3) po_none (po_some pe_int))) (pa_cons (pv 4) pa_nil))) (pa_cons (pe_tup (pa_cons (pe_slice C8.sl_txt (pv 5) (po_some pe_int) po_none) (pa_cons (C8.pe_c (c_law_plain T) hr (by decide) (by rfl) (pa_cons (pv 0) (pa_cons pe_int pa_nil))) pa_nil))) pa_nil)))))
    (pss_one (ps_ret (pe_op op_cat (pe_op op_cat (pe_slice sl_list (pv 1) po_none (po_some (pv 2))) (pv 6)) (pe_slice sl_list (pv 1) (po_some (pe_op op_add (pv 2) pe_int)) po_none))))))))), ?_⟩
    have hk' : vs[k]? = some (vs[k]'(by omega)) := List.getElem?_eq_getElem (by omega)
    obtain ⟨a, p, ea, hpi, pc⟩ := hp.get hk'
    rw [ea] at hk'
    obtain ⟨w, f⟩ := p
    have mem := List.mem_of_getElem? hpi
    have lf : f.length = m + 1 := st.len _ mem
    have w6 : w.length ≤ 600 := st.ws _ mem
    obtain ⟨fa, e1, e2⟩ := pc
    have stay : ∀ H', Same H H' → Q (.ref l) H' := fun H' s' => q l ps _ (.of s') (G.same s') lg ⟨vs, s' _ _ hl, hp.same s'⟩ (st.le (by omega)) SameW.rfl'
    refine ⟨_, rfl, _, rfl, l, _, k, _, rfl, rfl, .inl (.inl hl), atI_nat hk', a, _, rfl, .inl (.inl e1), rfl, _, _, rfl, _, _, rfl, rfl, ?_⟩
    refine ⟨_, rfl, rfl, _, rfl, ?_⟩
    show (if decide (V.str (S w) = V.str "") = true then _ else _)
    by_cases w0 : w = []
    · refine ite2 (fun _ => iteT ⟨_, rfl, stay _ (Same.refl _)⟩) (fun e => absurd (by rw [w0]; decide +kernel) e)
    refine ite2 (fun e => absurd (S_nil (V.str.inj (of_decide_eq_true e))) w0) (fun _ => ?_)
    refine ⟨_, rfl, _, _, rfl, rfl, _, rfl, l, vs, rfl, .inl (.inl (.inl hl)), rfl, _, rfl, ?_⟩
    by_cases hkl : k + 1 = vs.length
    · exact ite2 (fun _ => iteT ⟨_, rfl, stay _ (Same.refl _)⟩) (fun e => absurd (decide_eq_true (congrArg V.int (by omega))) e)
    refine ite2 (fun e => absurd (V.int.inj (of_decide_eq_true e)) (by omega)) (fun _ => ?_)
    have hk2 : vs[k + 1]? = some (vs[k + 1]'(by omega)) := List.getElem?_eq_getElem (by omega)
    obtain ⟨b, r, eb, hri, rc⟩ := hp.get hk2
    rw [eb] at hk2
    obtain ⟨v, h⟩ := r
    have mem' := List.mem_of_getElem? hri
    have v6 : v.length ≤ 600 := st.ws _ mem'
    obtain ⟨fb, b1, b2⟩ := rc
    refine ⟨_, rfl, _, rfl, _, _, rfl, rfl, l, _, _, _, rfl, rfl, .inl (.inl hl), at_next hk2, b, _, 1, _, rfl, rfl, .inl (.inl b1), atI_nat (j := 1) rfl, _, rfl, m, 1, rfl, m3, fun p1 H1 s1 h1 => ⟨dF h, dF (one1 m), dp_FT (FT.same b2 s1), dp_FT h1, shaped_dF _, shaped_dF _, _, rfl, ?_⟩⟩
    rw [eqv_dF]
    by_cases hh : ¬ (h = one1 m)
    · rw [decide_eq_false hh]
      exact iteT ⟨_, rfl, stay _ s1⟩
    replace hh := Classical.not_not.mp hh
    rw [decide_eq_true hh]
    subst hh
    refine iteF ?_
    have hl1 := s1 _ _ hl
    have b11 := s1 _ _ b1
    refine ⟨_, rfl, _, rfl, _, _, rfl, rfl, l, _, _, _, rfl, rfl, .inl (.inl hl1), at_next hk2, b, _, 0, _, rfl, rfl, .inl (.inl b11), atI_nat (j := 0) rfl, ?_⟩
    refine ⟨_, rfl, 1, rfl, S v, rfl, len_line (by omega), _, rfl, 1, rfl, S w, rfl, len_line (by omega), rfl, _, rfl, ?_⟩
    rw [SX.slice_to (by decide), SX.slice_to (by decide)]
    show (if (!decide (V.str (S (v.take 1)) = V.str (S (w.take 1)))) = true then _ else _)
    obtain ⟨c, w', rfl⟩ : ∃ c w', w = c :: w' := by
      cases w with
      | nil => exact absurd rfl w0
      | cons c w' => exact ⟨c, w', rfl⟩
    by_cases hv : ¬ (v.take 1 = [c])
    · refine ite2 (fun _ => ⟨_, rfl, stay _ s1⟩) (fun e => absurd (by rw [show (c :: w').take 1 = [c] from rfl, decide_eq_false (fun z => hv (S_inj (V.str.inj z)))]; rfl) e)
    replace hv := Classical.not_not.mp hv
    refine iteNS (by rw [hv]; rfl) ?_
    obtain ⟨v', rfl⟩ : ∃ v', v = c :: v' := by
      cases v with
      | nil => simp at hv
      | cons d v' =>
        have : d = c := by simpa using hv
        exact ⟨v', by rw [this]⟩
    -- the turned pieces
    refine ⟨_, rfl, 1, rfl, S (c :: w'), rfl, len_line (by omega), ?_⟩
    rw [SX.slice_to (by decide), show (c :: w').take (Int.toNat 1) = [c] from rfl]
    refine ⟨_, rfl, m, 1, rfl, m3, fun p2 H2 s2 h2 => ⟨by show 2 ≤ sizeLine; decide, fun ta na => ?_⟩⟩
    refine ⟨_, rfl, ((1 : Nat) : Int), rfl, S (c :: w'), rfl, len_line (by omega), _, rfl, 1, rfl, S (c :: w'), rfl, len_line (by omega), ?_⟩
    rw [SX.slice_from (by decide), SX.slice_to (by decide), show (c :: w').take (Int.toNat 1) = [c] from rfl, show (c :: w').drop (Int.toNat ((1 : Nat) : Int)) = w' from rfl]
    refine ⟨_, _, rfl, rfl, by rw [S_len, S_len, sizeLine_eq]; simp at w6 ⊢; omega, ?_⟩
    rw [S_cat]
    refine ⟨_, rfl, by show 2 ≤ sizeLine; decide, fun tb nb => ?_⟩
    refine ⟨_, rfl, ((1 : Nat) : Int), rfl, S (c :: v'), rfl, len_line (by omega), ?_⟩
    rw [SX.slice_from (by decide), show (c :: v').drop (Int.toNat ((1 : Nat) : Int)) = v' from rfl]
    refine ⟨_, rfl, m, 1, rfl, m3, fun p3 H3 s3 h3 => ⟨by show 2 ≤ sizeLine; decide, fun tc nc => ⟨by show 3 ≤ sizeLine; decide, fun L2 nL2 => ?_⟩⟩⟩
    have sa := sameNew (o := .tup [.str (S [c]), .ref p2]) na
    have sb := sameNew (o := .tup [.str (S (w' ++ [c])), .ref fa]) nb
    have sc := sameNew (o := .tup [.str (S v'), .ref p3]) nc
    have sL := sameNew (o := .lst [.ref ta, .ref tb, .ref tc]) nL2
    have h2' : FT H2 p2 (one1 m) := h2
    have h3' : FT H3 p3 (one1 m) := h3
    have eta := sL _ _ (sc _ _ (s3 _ _ (sb _ _ (upd_same (H := H2) (a := ta) (o := .tup [.str (S [c]), .ref p2])))))
    have efa := sL _ _ (sc _ _ (s3 _ _ (sb _ _ (sa _ _ h2'))))
    have etb := sL _ _ (sc _ _ (s3 _ _ (upd_same (H := upd H2 ta (.tup [.str (S [c]), .ref p2])) (a := tb) (o := .tup [.str (S (w' ++ [c])), .ref fa]))))
    have etc := sL _ _ (upd_same (H := H3) (a := tc) (o := .tup [.str (S v'), .ref p3]))
    have efc := sL _ _ (sc _ _ h3')
    have eL := upd_same (H := upd H3 tc (.tup [.str (S v'), .ref p3])) (a := L2) (o := .lst [.ref ta, .ref tb, .ref tc])
    have sx5 := ((s1.trans s2).trans (sa.trans sb)).trans ((s3.trans sc).trans sL)
    generalize upd (upd H3 tc (.tup [.str (S v'), .ref p3])) L2 (.lst [.ref ta, .ref tb, .ref tc]) = H5 at eta efa etb etc efc eL sx5
    have hl5 := sx5 _ _ hl
    refine ⟨_, rfl, _, rfl, k, rfl, l, vs, rfl, .inl (.inl hl5), fun p6 np6 => ?_⟩
    rw [cut_take]
    have s6 := sameNew (o := .lst (vs.take k)) np6
    refine ⟨_, rfl, p6, L2, _, _, rfl, rfl, upd_same, s6 _ _ eL, ?_, fun c1 nc1 => ⟨_, rfl, _, rfl, _, _, rfl, rfl, (k : Int) + 2, rfl, l, vs, rfl, .inl (.inl (sameNew nc1 _ _ (s6 _ _ hl5))), fun p7 np7 => ?_⟩⟩
    · rw [List.length_take, sizeLine_eq]
      simp
      omega
    refine ⟨c1, p7, _, _, rfl, rfl, sameNew np7 _ _ upd_same, upd_same, by rw [cut_drop2, List.length_append, List.length_take, List.length_drop, sizeLine_eq]; simp; omega, fun c2 nc2 => ?_⟩
    have s3n := three_new (o3 := .lst (vs.take k ++ [.ref ta, .ref tb, .ref tc] ++ cutV vs (some ((k : Int) + 2)) none)) nc1 np7 nc2
    have hY : Pcs (upd H5 p6 (.lst (vs.take k))) [.ref ta, .ref tb, .ref tc] [([c], one1 m), (w' ++ [c], f), (v', one1 m)] := .cons ⟨p2, s6 _ _ eta, s6 _ _ efa⟩ (.cons ⟨fa, s6 _ _ etb, s6 _ _ (FT.same e2 sx5)⟩ (.one ⟨p3, s6 _ _ etc, s6 _ _ efc⟩))
    have pl := pl_cut (H' := _) (k := k) (j := k + 2) ((hp.same sx5).same s6) hY s3n upd_same (cut_drop2 vs k)
    obtain ⟨st', sw⟩ := stp_moved st hpi hri
    have G6 := (G.same sx5).same s6
    exact q c2 _ _ (.of ((sx5.trans s6).trans s3n)) (G6.same s3n) (((G6.same (sameNew nc1)).same (sameNew np7)).ne nc2) pl st' sw
def sp_joined : Sp := fun vs H Q _ => ∃ (g l : Addr) (m k i n : Nat) (ps : List Pn), vs = [.int m, .ref l, .int k] ∧ PL H l ps ∧ Stp i m ps ∧ i < 12 ∧ m ≤ 3 ∧ k < ps.length ∧ l ≠ g ∧ Gn n H g ∧ Step H g n i m ps Q
theorem c_law_joined (T : Txt K mg C) : C8.Cal P w K mg base 2 "_law_joined" sp_joined [] := by
  refine calF T.d_law_joined sc_law_joined (fun vs H Q E h => ?_) (fun f0 cdv A outer s H vs Q E hr h => ?_)
  · obtain ⟨_, _, _, _, _, _, _, rfl, _⟩ := h; rfl
  · obtain ⟨g, l, m, k, i, n, ps, rfl, ⟨vs, hl, hp⟩, st, hi, m3, hk, lg, G, q⟩ := h
    have lv := hp.len
    have few := st.few
    refine ⟨_, (pss_cons (ps_if (pt_cmpR op_eq (pe_op op_add (pv 2) pe_int) (pe_callB call_len_seq (by rfl) T.m_len (by decide +kernel) (pa_cons (pv 1) pa_nil)) (nomark _))
    (pss_one (ps_ret (pv 1)))
    pss_nil)
    (pss_cons (ps_asg (pe_tup (pa_cons (pe_ix ix_list (pv 1) (pv 2) (fun _ _ => rfl)) (pa_cons (pe_ix ix_list (pv 1) (pe_op op_add (pv 2) pe_int) (fun _ _ => rfl)) pa_nil))) (pg_tup rfl (pgs_cons (pg_two (K := K) (i := 3) (j := 4) rfl rfl sc_law_joined.nd rfl rfl (Or.inl rfl) (Or.inl rfl)) (pgs_cons (pg_two (K := K) (i := 5) (j := 6) rfl rfl sc_law_joined.nd rfl rfl (Or.inl rfl) (Or.inl rfl)) pgs_nil))))
    (pss_cons (ps_if (pt_cmpR op_eq (pv 3) (pv 5) (nomark _))
    (pss_one (ps_ret (pe_op op_cat (pe_op op_cat (pe_slice sl_list (pv 1) po_none (po_some (pv 2))) (pe_lst (pa_cons (pe_tup (pa_cons (pv 3) (pa_cons (pe_callTy call_tupL (by rfl) T.m_tuple (by decide +kernel) (pa_cons (pe_lc (own := [("_law_low", 7), ("_law_high", 8)]) (by rfl) sc_law_joined.nd (pi_zipB (K := K) rfl (by rfl) T.m_zip (pa_cons (pv 4) (pa_cons (pv 6) pa_nil))) (blkOk_by (N := ["_law_many", "_law_pieces", "_law_at", "_law_word_here", "_law_form_here", "_law_later", "_law_other", "_law_low", "_law_high"]) (sc := C8.fnScope (topS 60)) (own := [("_law_low", 7), ("_law_high", 8)]) (by decide +kernel)) (fun _ _ _ _ _ => (pg_two (K := K) (i := 7) (j := 8) rfl rfl sc_law_joined.nd rfl rfl (Or.inl rfl) (Or.inl rfl))) (fun _ _ _ _ _ => pts_nil) (fun _ _ _ _ _ => (pe_op op_add (pv 7) (pv 8)))) pa_nil)) pa_nil))) pa_nil))) (pe_slice sl_list (pv 1) (po_some (pe_op op_add (pv 2) pe_int)) po_none))))
    pss_nil)
    (pss_cons (ps_if (PW.pt (pw_and (pt_cmpR (op_eqD hr.units) (pv 4) (C8.pe_c (c_law_plain T) hr (by decide) (by rfl) (pa_cons (pv 0) (pa_cons pe_int pa_nil))) (nomark _)) (pw_and1 (pt_cmpR (op_eqD hr.units) (pv 6) (pv 4) (nomark _)))))
    (pss_one (ps_ret (pe_op op_cat (pe_op op_cat (pe_slice sl_list (pv 1) po_none (po_some (pv 2))) (pe_lst (pa_cons (pe_tup (pa_cons (pe_op op_add_str (pv 3) (pv 5)) (pa_cons (pv 4) pa_nil))) pa_nil))) (pe_slice sl_list (pv 1) (po_some (pe_op op_add (pv 2) pe_int)) po_none))))
    pss_nil)
    (pss_one (ps_ret (pv 1))))))), ?_⟩
    have stay : ∀ H', Same H H' → Q (.ref l) H' := fun H' s' => q l ps _ (.of s') (G.same s') lg ⟨vs, s' _ _ hl, hp.same s'⟩ (st.le (by omega)) SameW.rfl'
    refine ⟨_, rfl, _, _, rfl, rfl, _, rfl, l, vs, rfl, .inl (.inl (.inl hl)), rfl, _, rfl, ?_⟩
    by_cases hkl : k + 1 = vs.length
    · exact ite2 (fun _ => ⟨_, rfl, stay _ (Same.refl _)⟩) (fun e => absurd (decide_eq_true (congrArg V.int (by omega))) e)
    refine ite2 (fun e => absurd (V.int.inj (of_decide_eq_true e)) (by omega)) (fun _ => ?_)
    have hk' : vs[k]? = some (vs[k]'(by omega)) := List.getElem?_eq_getElem (by omega)
    obtain ⟨a, p, ea, hpi, pc⟩ := hp.get hk'
    rw [ea] at hk'
    obtain ⟨w, f⟩ := p
    have mem := List.mem_of_getElem? hpi
    have lf : f.length = m + 1 := st.len _ mem
    have w6 : w.length ≤ 600 := st.ws _ mem
    obtain ⟨fa, e1, e2⟩ := pc
    have hk2 : vs[k + 1]? = some (vs[k + 1]'(by omega)) := List.getElem?_eq_getElem (by omega)
    obtain ⟨b, r, eb, hri, rc⟩ := hp.get hk2
    rw [eb] at hk2
    obtain ⟨v, h⟩ := r
    have mem' := List.mem_of_getElem? hri
    have lh : h.length = m + 1 := st.len _ mem'
    have v6 : v.length ≤ 600 := st.ws _ mem'
    obtain ⟨fb, b1, b2⟩ := rc
    refine ⟨_, rfl, _, rfl, l, _, k, _, rfl, rfl, .inl (.inl hl), atI_nat hk', _, rfl, _, rfl, _, _, rfl, rfl, l, _, _, _, rfl, rfl, .inl (.inl hl), at_next hk2, by show 2 ≤ sizeLine; decide, fun t nt => ?_⟩
    have st0 := sameNew (o := .tup [.ref a, .ref b]) nt
    have ht := upd_same (H := H) (a := t) (o := .tup [.ref a, .ref b])
    generalize upd H t (.tup [.ref a, .ref b]) = H0 at st0 ht
    have e1' := st0 _ _ e1
    have b1' := st0 _ _ b1
    have e2' : FT H0 fa f := st0 _ _ e2
    have b2' : FT H0 fb h := st0 _ _ b2
    have hl0 := st0 _ _ hl
    refine ⟨t, _, rfl, .inl (.inl ht), rfl, _, _, rfl, a, _, rfl, .inl (.inl e1'), rfl, _, _, rfl, _, _, rfl, rfl, _, _, rfl, b, _, rfl, .inl (.inl b1'), rfl, _, _, rfl, _, _, rfl, rfl, rfl, ?_⟩
    refine ⟨_, rfl, _, rfl, rfl, _, rfl, ?_⟩
    show (if decide (V.str (S w) = V.str (S v)) = true then _ else _)
    by_cases hwv : w = v
    · subst hwv
      refine ite2 (fun _ => ?_) (fun e => absurd (decide_eq_true rfl) e)
      refine ⟨_, rfl, _, rfl, k, rfl, l, vs, rfl, .inl (.inl hl0), fun p1 np1 => ?_⟩
      rw [cut_take]
      have sp1 := sameNew (o := .lst (vs.take k)) np1
      have ep1 := upd_same (H := H0) (a := p1) (o := .lst (vs.take k))
      have x1 := sp1 _ _ e2'
      have x2 := sp1 _ _ b2'
      have hl1 := sp1 _ _ hl0
      generalize upd H0 p1 (.lst (vs.take k)) = H1 at sp1 ep1 x1 x2 hl1
      refine ⟨_, rfl, _, rfl, _, rfl, .T, .T, fa, fb, _, _, rfl, .inl (.inl x1), .inl (.inl x2), ?_⟩
      refine fun D hD => lcZ_map vAdd (by simp; omega) (by rw [List.length_map]; exact small5 (by omega)) (fun H' s => ⟨.inl (.inl (s _ _ x1)), .inl (.inl (s _ _ x2))⟩) (fun i x y H' R hx hy s q' => ?_) hD fun H2 s2 hL => ?_
      · obtain ⟨x', mx, _, rfl⟩ := get_nat hx
        obtain ⟨y', my, _, rfl⟩ := get_nat hy
        exact ⟨rfl, _, rfl, _, rfl, _, _, rfl, rfl, q' _ (Same.refl _)⟩
      · rw [zip_addN] at hL
        refine ⟨D, _, rfl, hL, fun t2 H3 s3 h3 => ⟨by show 2 ≤ sizeLine; decide, fun ta na => ⟨by show 1 ≤ sizeLine; decide, fun L2 nL2 => ?_⟩⟩⟩
        have sa := sameNew (o := .tup [.str (S w), .ref t2]) na
        have sL := sameNew (o := .lst [.ref ta]) nL2
        have s23 := s2.trans s3
        have ep2 := sL _ _ (sa _ _ (s23 _ _ ep1))
        have hl2 := sL _ _ (sa _ _ (s23 _ _ hl1))
        have eta := sL _ _ (upd_same (H := H3) (a := ta) (o := .tup [.str (S w), .ref t2]))
        have et2 := sL _ _ (sa _ _ h3)
        have eL := upd_same (H := upd H3 ta (.tup [.str (S w), .ref t2])) (a := L2) (o := .lst [.ref ta])
        have sx6 := (st0.trans sp1).trans ((s23.trans sa).trans sL)
        generalize upd (upd H3 ta (.tup [.str (S w), .ref t2])) L2 (.lst [.ref ta]) = H6 at ep2 hl2 eta et2 eL sx6
        refine ⟨p1, L2, _, _, rfl, rfl, ep2, eL, by rw [List.length_take, sizeLine_eq]; simp; omega, fun c1 nc1 => ⟨_, rfl, _, rfl, _, _, rfl, rfl, (k : Int) + 2, rfl, l, vs, rfl, .inl (.inl (sameNew nc1 _ _ hl2)), fun p2 np2 => ?_⟩⟩
        refine ⟨c1, p2, _, _, rfl, rfl, sameNew np2 _ _ upd_same, upd_same, by rw [cut_drop2, List.length_append, List.length_take, List.length_drop, sizeLine_eq]; simp; omega, fun c2 nc2 => ?_⟩
        have s3n := three_new (o3 := .lst (vs.take k ++ [.ref ta] ++ cutV vs (some ((k : Int) + 2)) none)) nc1 np2 nc2
        have hY : Pcs H6 [.ref ta] [(w, addF f h)] := .one ⟨t2, eta, et2⟩
        have pl := pl_cut (H' := _) (k := k) (j := k + 2) (hp.same sx6) hY s3n upd_same (cut_drop2 vs k)
        obtain ⟨st', sw⟩ := stp_join1 st hpi hri
        have G6 := G.same sx6
        exact q c2 _ _ (.of (sx6.trans s3n)) (G6.same s3n) (((G6.same (sameNew nc1)).same (sameNew np2)).ne nc2) pl st' sw
    · refine ite2 (fun e => absurd (S_inj (V.str.inj (of_decide_eq_true e))) hwv) (fun _ => ?_)
      refine ⟨_, rfl, _, rfl, m, 1, rfl, m3, fun p1 H1 s1 h1 => ⟨dF f, dF (one1 m), dp_FT (e2'.same s1), dp_FT h1, shaped_dF _, shaped_dF _, _, rfl, ?_⟩⟩
      rw [eqv_dF]
      have s01 := st0.trans s1
      by_cases hf : ¬ (f = one1 m)
      · rw [decide_eq_false hf]
        exact iteF (iteF ⟨_, rfl, stay _ s01⟩)
      replace hf := Classical.not_not.mp hf
      rw [decide_eq_true hf]
      refine iteT ⟨_, rfl, _, rfl, dF h, dF f, dp_FT (b2'.same s1), dp_FT (e2'.same s1), shaped_dF _, shaped_dF _, _, rfl, ?_⟩
      rw [eqv_dF]
      by_cases hh : ¬ (h = f)
      · rw [decide_eq_false hh]
        exact iteF ⟨_, rfl, stay _ s01⟩
      replace hh := Classical.not_not.mp hh
      rw [decide_eq_true hh]
      have hl1 := s1 _ _ hl0
      refine iteT ⟨_, rfl, _, rfl, k, rfl, l, vs, rfl, .inl (.inl hl1), fun p2 np2 => ⟨_, rfl, _, rfl, _, _, rfl, rfl, by rw [S_len, S_len, sizeLine_eq]; have x1 : List.length ((w, f) : Pn).1 = w.length := rfl; have x2 : List.length ((v, h) : Pn).1 = v.length := rfl; omega, ?_⟩⟩
      rw [S_cat, cut_take]
      refine ⟨_, rfl, by show 2 ≤ sizeLine; decide, fun ta na => ⟨by show 1 ≤ sizeLine; decide, fun L2 nL2 => ?_⟩⟩
      have sp2 := sameNew (o := .lst (vs.take k)) np2
      have sa := sameNew (o := .tup [.str (S (w ++ v)), .ref fa]) na
      have sL := sameNew (o := .lst [.ref ta]) nL2
      have ep2 := sL _ _ (sa _ _ (upd_same (H := H1) (a := p2) (o := .lst (vs.take k))))
      have eta := sL _ _ (upd_same (H := upd H1 p2 (.lst (vs.take k))) (a := ta) (o := .tup [.str (S (w ++ v)), .ref fa]))
      have eL := upd_same (H := upd (upd H1 p2 (.lst (vs.take k))) ta (.tup [.str (S (w ++ v)), .ref fa])) (a := L2) (o := .lst [.ref ta])
      have sx6 := s01.trans ((sp2.trans sa).trans sL)
      generalize upd (upd (upd H1 p2 (.lst (vs.take k))) ta (.tup [.str (S (w ++ v)), .ref fa])) L2 (.lst [.ref ta]) = H6 at ep2 eta eL sx6
      have hl2 := sx6 _ _ hl
      refine ⟨p2, L2, _, _, rfl, rfl, ep2, eL, by rw [List.length_take, sizeLine_eq]; simp; omega, fun c1 nc1 => ⟨_, rfl, _, rfl, _, _, rfl, rfl, (k : Int) + 2, rfl, l, vs, rfl, .inl (.inl (sameNew nc1 _ _ hl2)), fun p3 np3 => ?_⟩⟩
      refine ⟨c1, p3, _, _, rfl, rfl, sameNew np3 _ _ upd_same, upd_same, by rw [cut_drop2, List.length_append, List.length_take, List.length_drop, sizeLine_eq]; simp; omega, fun c2 nc2 => ?_⟩
      have s3n := three_new (o3 := .lst (vs.take k ++ [.ref ta] ++ cutV vs (some ((k : Int) + 2)) none)) nc1 np3 nc2
      subst hf
      subst hh
      have hY : Pcs H6 [.ref ta] [(w ++ v, one1 m)] := .one ⟨fa, eta, sx6 _ _ e2⟩
      have pl := pl_cut (H' := _) (k := k) (j := k + 2) (hp.same sx6) hY s3n upd_same (cut_drop2 vs k)
      obtain ⟨st', sw⟩ := stp_join2 st hi hpi hri
      have G6 := G.same sx6
      exact q c2 _ _ (.of (sx6.trans s3n)) (G6.same s3n) (((G6.same (sameNew nc1)).same (sameNew np3)).ne nc2) pl st' sw
end
end K13

set_option Elab.async false
set_option linter.all false
set_option maxRecDepth 100000
set_option maxHeartbeats 4000000
namespace K13
open PySem PySem.Spec PyProof.Rows L2 CK SX NM
theorem Step.le {H : Hp} {g : Addr} {n n' i m : Nat} {ps : List Pn} {Q : VK} (h : Step H g n i m ps Q) (hn : n ≤ n') : Step H g n' i m ps Q := fun r qs H' s G ne pl st sw => h r qs H' s (G.le hn) ne pl st sw
theorem Step.pre {H H1 : Hp} {g : Addr} {n i m : Nat} {ps : List Pn} {Q : VK} (h : Step H g n i m ps Q) (s : SameX g H H1) : Step H1 g n i m ps Q := fun r qs H' s' G ne pl st sw => h r qs H' (s.trans s') G ne pl st sw
theorem PL.sameX {H H' : Hp} {n : Nat} {g l : Addr} {ps : List Pn} (h : PL H l ps) (G : Gn n H g) (ne : l ≠ g) (s : SameX g H H') : PL H' l ps := by
  obtain ⟨vs, hl, hp⟩ := h
  exact ⟨vs, s _ _ ne hl, hp.mono fun a xs e => s.tup G e⟩
section
variable {P : Program} {w : World} {K : PySem.W.Frag} {mg : Str → Option Value} {base : Heap} {C : Addr}
def sp_stepped : Sp := fun vs H Q _ => ∃ (g l : Addr) (m i n : Nat) (cs : List Nat) (ps : List Pn), vs = [.ref g, .int m, .str (S cs), .ref l] ∧ cs.length = 3 ∧ Low cs ∧ PL H l ps ∧ Stp i m ps ∧ i < 12 ∧ m ≤ 3 ∧ l ≠ g ∧ Gn (n + 20) H g ∧ Step H g n i m ps Q
theorem c_law_stepped (T : Txt K mg C) : C8.Cal P w K mg base 4 "_law_stepped" sp_stepped [] := by
  refine calF T.d_law_stepped sc_law_stepped (fun vs H Q E h => ?_) (fun f0 cdv A outer s H vs Q E hr h => ?_)
  · obtain ⟨_, _, _, _, _, _, _, rfl, _⟩ := h; rfl
  · obtain ⟨g, l, m, i, n, cs, ps, rfl, lcs, lowc, pl, st, hi, m3, lg, G, q⟩ := h
    have few := st.few
    refine ⟨_, (pss_cons (ps_if (pt_cmpR (op_eqD hr.units) (pv 3) (pe_lst pa_nil) (nomark _))
    (pss_one (ps_ret (pe_lst (pa_cons (pe_tup (pa_cons (pv 2) (pa_cons (pe_op op_repOne (pe_tup (pa_cons pe_int pa_nil)) (pe_op op_add (pv 1) pe_int)) pa_nil))) pa_nil))))
    pss_nil)
    (pss_cons (ps_par (i := 4) (j := 5) (by rfl) sc_law_stepped.nd rfl rfl (by decide) rfl rfl (pa_cons (C8.pe_c (c_law_random T) hr (by decide) (by rfl) (pa_cons (pv 0) (pa_cons pe_int pa_nil))) (pa_cons (C8.pe_c (c_law_random T) hr (by decide) (by rfl) (pa_cons (pv 0) (pa_cons (pe_callB call_len_seq (by rfl) T.m_len (by decide +kernel) (pa_cons (pv 3) pa_nil)) pa_nil))) pa_nil)) (by rfl))
    (pss_cons (ps_if (PW.pt (pw_and (pt_cmpR op_eq (pv 4) pe_int (nomark _)) (pw_and1 (pt_cmpR op_lt (pe_callB call_len_seq (by rfl) T.m_len (by decide +kernel) (pa_cons (pv 3) pa_nil)) pe_int (nomark _)))))
    (pss_one (ps_ret (C8.pe_c (c_law_parted T) hr (by decide) (by rfl) (pa_cons (pv 0) (pa_cons (pv 1) (pa_cons (pv 3) (pa_cons (pv 5) pa_nil)))))))
    pss_nil)
    (pss_cons (ps_if (PW.pt (pw_and (pt_cmpR op_eq (pv 4) pe_int (nomark _)) (pw_and1 (pt_cmpR op_lt (pe_callB call_len_str (by rfl) T.m_len (by decide +kernel) (pa_cons (pe_ix ix_tup (pe_ix ix_list (pv 3) (pv 5) (fun _ _ => rfl)) pe_int (fun _ _ => rfl)) pa_nil)) pe_int (nomark _)))))
    (pss_one (ps_ret (C8.pe_c (c_law_doubled T) hr (by decide) (by rfl) (pa_cons (pv 1) (pa_cons (pv 3) (pa_cons (pv 5) pa_nil))))))
    pss_nil)
    (pss_cons (ps_if (PW.pt (pw_and (pt_cmpR op_eq (pv 4) pe_int (nomark _)) (pw_and1 (pt_cmpR op_lt (pe_callB call_len_seq (by rfl) T.m_len (by decide +kernel) (pa_cons (pv 3) pa_nil)) pe_int (nomark _)))))
    (pss_one (ps_ret (C8.pe_c (c_law_moved T) hr (by decide) (by rfl) (pa_cons (pv 1) (pa_cons (pv 3) (pa_cons (pv 5) pa_nil))))))
    pss_nil)
    (pss_cons (ps_if (PW.pt (pw_and (pt_cmpR op_eq (pv 4) pe_int (nomark _)) (pw_and1 (pt_cmpR op_lt (pe_callB call_len_seq (by rfl) T.m_len (by decide +kernel) (pa_cons (pv 3) pa_nil)) pe_int (nomark _)))))
    (pss_one (ps_ret (C8.pe_c (c_law_taken_out T) hr (by decide) (by rfl) (pa_cons (pv 1) (pa_cons (pv 3) (pa_cons (pv 5) pa_nil))))))
    pss_nil)
    (pss_cons (ps_if (pt_cmpR op_eq (pv 4) pe_int (nomark _))
    (pss_one (ps_ret (pe_op op_cat (pe_op op_cat (pe_slice sl_list (pv 3) po_none (po_some (pv 5))) (pe_lst (pa_cons (pe_tup (pa_cons pe_str (pa_cons (C8.pe_c (c_law_form T) hr (by decide) (by rfl) (pa_cons (pv 0) (pa_cons (pv 1) (pa_cons pe_int pa_nil)))) pa_nil))) pa_nil))) (pe_slice sl_list (pv 3) (po_some (pv 5)) po_none))))
    pss_nil)
    (pss_one (ps_ret (C8.pe_c (c_law_joined T) hr (by decide) (by rfl) (pa_cons (pv 1) (pa_cons (pv 3) (pa_cons (pv 5) pa_nil))))))))))))), ?_⟩
    refine ⟨_, rfl, by show 0 ≤ sizeLine; omega, fun M hM => ?_⟩
    have sM := sameNew (o := .lst []) hM
    refine ⟨.list (ps.map dP), .list [], dp_PL (pl.same sM), .lst (.inl (.inl upd_same)) .nil, shaped_dPs st.low, shaped_nil, _, rfl, ?_⟩
    rw [show PyData.eqv (.list (ps.map dP)) (.list []) = decide (ps = []) from eqv_dPs ps []]
    have G1 := G.same sM
    have pl1 := pl.same sM
    generalize upd H M (.lst []) = H1 at sM G1 pl1
    by_cases h0 : ps = []
    · rw [decide_eq_true h0]
      refine iteT ⟨_, rfl, by show 1 ≤ sizeLine; decide, fun t1 n1 => ⟨_, rfl, _, _, rfl, rfl, t1, _, _, rfl, rfl, upd_same, by omega, by omega, fun p H2 s2 h2 => ⟨by show 2 ≤ sizeLine; decide, fun ta na => ⟨by show 1 ≤ sizeLine; decide, fun L nL => ?_⟩⟩⟩⟩
      have st1 := sameNew (o := .tup [V.int 0]) n1
      have sa := sameNew (o := .tup [.str (S cs), .ref p]) na
      have sL := sameNew (o := .lst [.ref ta]) nL
      have eta := sL _ _ (upd_same (H := H2) (a := ta) (o := .tup [.str (S cs), .ref p]))
      have ep := sL _ _ (sa _ _ h2)
      have eL := upd_same (H := upd H2 ta (.tup [.str (S cs), .ref p])) (a := L) (o := .lst [.ref ta])
      have sx := (st1.trans s2).trans (sa.trans sL)
      have Lg : L ≠ g := ((G1.same (st1.trans s2)).same sa).ne nL
      generalize upd (upd H2 ta (.tup [.str (S cs), .ref p])) L (.lst [.ref ta]) = H3 at eta ep eL sx
      subst h0
      obtain ⟨st', sw⟩ := stp_none (w := cs) st lowc (by omega)
      refine q L _ H3 (.of (sM.trans sx)) ((G1.same sx).le (by omega)) Lg ⟨_, eL, .one ⟨p, eta, ?_⟩⟩ st' sw
      unfold FT
      rw [ep, show ((m : Int) + 1).toNat = m + 1 by omega, List.map_replicate]
      rfl
    · rw [decide_eq_false h0]
      have p0 := List.length_pos_iff.mpr h0
      obtain ⟨vs, hl, hp⟩ := id pl1
      have lv := hp.len
      refine iteF ⟨_, rfl, g, 7, n + 19, rfl, G1, by decide, by decide, fun way H2 s2 G2 w0 w1 => ?_⟩
      have hl2 := s2 _ _ lg hl
      refine ⟨_, rfl, _, rfl, l, vs, rfl, .inl (.inl (.inl hl2)), g, _, n + 18, rfl, G2, by omega, by omega, fun at_ H3 s3 G3 a0 a1 => ⟨_, _, rfl, ?_⟩⟩
      obtain ⟨k, rfl⟩ : ∃ k : Nat, at_ = k := ⟨at_.toNat, by omega⟩
      have s23 := s2.trans s3
      have pl3 := pl1.sameX G1 lg s23
      have q3 := q.pre ((SameX.of sM).trans s23)
      have hk : k < ps.length := by omega
      obtain ⟨vs3, hl3, hp3⟩ := id pl3
      have lv3 := hp3.len
      have G3n : Gn (n + 10) H3 g := G3.le (by omega)
      have G3m : Gn n H3 g := G3.le (by omega)
      have w4 : way = 4 ∨ way ≠ 4 := by omega
      generalize hσ : [some (V.ref g), some (V.int (m : Nat)), some (V.str (S cs)), some (V.ref l), some (V.int way), some (V.int (k : Nat))] = σ0
      dsimp only
      refine cut_seq (fun σ' H' => H3 = H' ∧ σ0 = σ') (fun K hK => ?_) fun σ' H' pM => ?_
      · have hK := hK σ0 H3 ⟨rfl, rfl⟩
        subst hσ
        refine ⟨_, rfl, rfl, _, rfl, ite2 (fun e => ?_) (fun e => iteF hK)⟩
        refine ⟨_, rfl, l, vs3, rfl, .inl (.inl (.inl hl3)), _, _, rfl, rfl, _, rfl, ite2 (fun e => ?_) (fun e => hK)⟩
        exact ⟨_, rfl, _, rfl, _, rfl, _, rfl, g, l, m, k, i, n, ps, rfl, pl3, st, hi, m3, hk, lg, G3n, q3⟩
      obtain ⟨rfl, rfl⟩ := pM
      refine cut_seq (fun σ' H' => H3 = H' ∧ σ0 = σ') (fun K hK => ?_) fun σ' H' pM => ?_
      · have hK := hK σ0 H3 ⟨rfl, rfl⟩
        subst hσ
        refine ⟨_, rfl, rfl, _, rfl, ite2 (fun e => ?_) (fun e => iteF hK)⟩
        have hk' : vs3[k]? = some (vs3[k]'(by omega)) := List.getElem?_eq_getElem (by omega)
        obtain ⟨a, p, ea, hpi, pc⟩ := hp3.get hk'
        rw [ea] at hk'
        obtain ⟨fa, e1, e2⟩ := pc
        have w6 := st.ws _ (List.mem_of_getElem? hpi)
        refine ⟨_, rfl, _, rfl, l, _, k, _, rfl, rfl, .inl (.inl hl3), atI_nat hk', a, _, 0, _, rfl, rfl, .inl (.inl e1), atI_nat (j := 0) rfl, S p.1, rfl, len_line (by omega), _, _, rfl, rfl, _, rfl, ite2 (fun e => ?_) (fun e => hK)⟩
        have e' := of_decide_eq_true e
        rw [S_len] at e'
        refine ⟨_, rfl, _, rfl, _, rfl, g, l, m, k, i, n, ps, rfl, pl3, st, hi, m3, hk, fun p' hp' => ?_, lg, G3m, q3⟩
        rw [hpi] at hp'
        cases hp'
        omega
      obtain ⟨rfl, rfl⟩ := pM
      refine cut_seq (fun σ' H' => H3 = H' ∧ σ0 = σ') (fun K hK => ?_) fun σ' H' pM => ?_
      · have hK := hK σ0 H3 ⟨rfl, rfl⟩
        subst hσ
        refine ⟨_, rfl, rfl, _, rfl, ite2 (fun e => ?_) (fun e => iteF hK)⟩
        refine ⟨_, rfl, l, vs3, rfl, .inl (.inl (.inl hl3)), _, _, rfl, rfl, _, rfl, ite2 (fun e => ?_) (fun e => hK)⟩
        exact ⟨_, rfl, _, rfl, _, rfl, g, l, m, k, i, n, ps, rfl, pl3, st, hi, m3, hk, lg, G3m, q3⟩
      obtain ⟨rfl, rfl⟩ := pM
      refine cut_seq (fun σ' H' => H3 = H' ∧ σ0 = σ') (fun K hK => ?_) fun σ' H' pM => ?_
      · have hK := hK σ0 H3 ⟨rfl, rfl⟩
        subst hσ
        refine ⟨_, rfl, rfl, _, rfl, ite2 (fun e => ?_) (fun e => iteF hK)⟩
        refine ⟨_, rfl, l, vs3, rfl, .inl (.inl (.inl hl3)), _, _, rfl, rfl, _, rfl, ite2 (fun e => ?_) (fun e => hK)⟩
        exact ⟨_, rfl, _, rfl, _, rfl, g, l, m, k, i, n, ps, rfl, pl3, st, hi, m3, hk, lg, G3m, q3⟩
      obtain ⟨rfl, rfl⟩ := pM
      refine cut_seq (fun σ' H' => H3 = H' ∧ σ0 = σ') (fun K hK => ?_) fun σ' H' pM => ?_
      · have hK := hK σ0 H3 ⟨rfl, rfl⟩
        subst hσ
        refine ⟨_, rfl, rfl, _, rfl, ite2 (fun e => ?_) (fun e => hK)⟩
        refine ⟨_, rfl, _, rfl, k, rfl, l, vs3, rfl, .inl (.inl hl3), fun p1 np1 => ?_⟩
        rw [cut_take]
        have sp1 := sameNew (o := .lst (vs3.take k)) np1
        have ep1 := upd_same (H := H3) (a := p1) (o := .lst (vs3.take k))
        have hl4 := sp1 _ _ hl3
        have G4 := (G3n.same sp1)
        have p1g : p1 ≠ g := G3n.ne np1
        generalize upd H3 p1 (.lst (vs3.take k)) = H4 at sp1 ep1 hl4 G4
        refine ⟨_, rfl, _, rfl, g, m, 3, n, rfl, G4.le (by omega), m3, by decide, fun p f H5 s5 G5 hf lf uf => ⟨by show 2 ≤ sizeLine; decide, fun ta na => ⟨by show 1 ≤ sizeLine; decide, fun L2 nL2 => ?_⟩⟩⟩
        have sa := sameNew (o := .tup [.str "", .ref p]) na
        have sL := sameNew (o := .lst [.ref ta]) nL2
        have ep2 := sL _ _ (sa _ _ (s5 _ _ p1g ep1))
        have hl5 := sL _ _ (sa _ _ (s5 _ _ lg hl4))
        have eta := sL _ _ (upd_same (H := H5) (a := ta) (o := .tup [.str "", .ref p]))
        have ef := sL _ _ (sa _ _ hf)
        have eL := upd_same (H := upd H5 ta (.tup [.str "", .ref p])) (a := L2) (o := .lst [.ref ta])
        have s6 : SameX g H3 (upd (upd H5 ta (.tup [.str "", .ref p])) L2 (.lst [.ref ta])) := (SameX.of sp1).trans (s5.trans (.of (sa.trans sL)))
        have G6 := (G5.same sa).same sL
        have hp6 : Pcs (upd (upd H5 ta (.tup [.str "", .ref p])) L2 (.lst [.ref ta])) vs3 ps := hp3.mono fun a xs e => s6.tup G3n e
        generalize upd (upd H5 ta (.tup [.str "", .ref p])) L2 (.lst [.ref ta]) = H6 at ep2 hl5 eta ef eL s6 G6 hp6
        refine ⟨p1, L2, _, _, rfl, rfl, ep2, eL, by rw [List.length_take, sizeLine_eq]; simp; omega, fun c1 nc1 => ⟨_, rfl, _, rfl, k, rfl, l, vs3, rfl, .inl (.inl (sameNew nc1 _ _ hl5)), fun p2 np2 => ?_⟩⟩
        refine ⟨c1, p2, _, _, rfl, rfl, sameNew np2 _ _ upd_same, upd_same, by rw [cutV_drop, List.length_append, List.length_take, List.length_drop, sizeLine_eq]; simp; omega, fun c2 nc2 => ?_⟩
        have s3n := three_new (o3 := .lst (vs3.take k ++ [.ref ta] ++ cutV vs3 (some (k : Int)) none)) nc1 np2 nc2
        have eS : (V.str "") = V.str (S []) := by decide +kernel
        have hY : Pcs H6 [.ref ta] [([], f)] := .one ⟨p, by rw [eta, eS], ef⟩
        have plc := pl_cut (H' := _) (k := k) (j := k) hp6 hY s3n upd_same (cutV_drop vs3 k)
        obtain ⟨st', sw⟩ := stp_empty (k := k) st lf (fun x hx => by have := uf x hx; omega)
        exact q3 c2 _ _ (s6.trans (.of s3n)) (G6.same s3n) (((G6.same (sameNew nc1)).same (sameNew np2)).ne nc2) plc st' sw
      obtain ⟨rfl, rfl⟩ := pM
      subst hσ
      exact ⟨_, rfl, _, rfl, _, rfl, g, l, m, k, i, n, ps, rfl, pl3, st, hi, m3, hk, lg, G3m, q3⟩
end
end K13

set_option Elab.async false
set_option linter.all false
set_option maxRecDepth 100000
set_option maxHeartbeats 4000000
namespace K13
open PySem PySem.Spec PyProof.Rows L2 CK SX NM
theorem mk_text {C : Addr} {Hc : Hp} {x dx l : Addr} {m : Nat} {ps : List Pn} {R : V → Hp → Prop} {E : XK} (nx : Hc x = none) (ndx : Hc dx = none) (nex : dx ≠ x) (gl : GL Hc m l ps) (m3 : m ≤ 3) (hme : meas ps ≤ 2000) (hw : Wl m ps)
    (q : ∀ r H', Same Hc H' → Hc r = none → OTl C H' x r m (normL ps) → R .non H') : sp_init C [.ref x, .int (m : Nat), .ref l] (upd (upd Hc dx (.own x)) x (.ins C dx [])) R E := by
  have s0 : Same Hc (upd (upd Hc dx (.own x)) x (.ins C dx [])) := fun b o e => by
    rw [upd_ne (ne_of_none e nx), upd_ne (ne_of_none e ndx)]
    exact e
  refine ⟨x, dx, l, m, ps, rfl, upd_same, m3, gl.same s0, hme, hw, fun r H1 s1 n1 ot => q r H1 (fun b o e => ?_) (s0.free n1) ot⟩
  exact s1 _ _ (fun z => by rw [z, nx] at e; cases e) (s0 _ _ e)
theorem GL.sameL {H H' : Hp} {m : Nat} {l L : Addr} {ps : List Pn} {zs : List V} (h : GL H m l ps) (hL : H L = some (.lst zs)) (ne : l ≠ L) (s : SameX L H H') : GL H' m l ps := by
  obtain ⟨vs, hl, hp⟩ := id h.at_
  exact ⟨⟨vs, s _ _ ne hl, hp.mono (tup_sameX hL s)⟩, h.len, h.ws, h.low, h.bf, h.few⟩
theorem OTl.sameL {C : Addr} {H H' : Hp} {m : Nat} {p l L : Addr} {ps : List Pn} {zs : List V} (h : OTl C H p l m ps) (hL : H L = some (.lst zs)) (ne : l ≠ L) (s : SameX L H H') : OTl C H' p l m ps := by
  obtain ⟨⟨dx, e⟩, g⟩ := h
  exact ⟨⟨dx, s _ _ (fun z => by rw [z, hL] at e; cases e) e⟩, g.sameL hL ne s⟩
theorem GL.sameG {H H' : Hp} {m n : Nat} {l g : Addr} {ps : List Pn} (h : GL H m l ps) (G : Gn n H g) (ne : l ≠ g) (s : SameX g H H') : GL H' m l ps := by
  obtain ⟨xs, hg⟩ := G.at
  exact h.sameL hg ne s
theorem OTl.sameG {C : Addr} {H H' : Hp} {m n : Nat} {p l g : Addr} {ps : List Pn} (h : OTl C H p l m ps) (G : Gn n H g) (ne : l ≠ g) (s : SameX g H H') : OTl C H' p l m ps := by
  obtain ⟨xs, hg⟩ := G.at
  exact h.sameL hg ne s
theorem Stp.gl {H : Hp} {i m : Nat} {l : Addr} {ps : List Pn} (h : Stp i m ps) (pl : PL H l ps) (hi : i ≤ 12) : GL H m l ps :=
  ⟨pl, h.len, fun p hp => by have := h.ws p hp; omega, h.low, fun p hp n hn => Nat.lt_of_le_of_lt (Nat.le_trans (h.up p hp n hn) (pow_le hi)) (by decide +kernel), by have := h.few; omega⟩
theorem SameW.wl {m : Nat} {ps qs : List Pn} (h : SameW m ps qs) (hw : Wl m ps) : Wl m qs := by
  unfold Wl
  rw [h _ (by simp)]
  exact hw
theorem OF_no (l : Addr) (m : Nat) : ((OF l m).lookup ("pieces" : Str) = none) ∧ ((OF l m).lookup ("many" : Str) = none) :=
  ⟨of_no l m (by decide +kernel) (by decide +kernel), of_no l m (by decide +kernel) (by decide +kernel)⟩
theorem GL.dpP {K : PySem.W.Frag} {H : Hp} {m : Nat} {l : Addr} {ps : List Pn} (h : GL H m l ps) : Dp K H (.ref l) (.list (ps.map dP)) := dp_PL h.at_
theorem sum_le {B : Nat} : ∀ f : List Nat, (∀ x ∈ f, x ≤ B) → f.sum ≤ f.length * B
  | [], _ => by simp
  | a :: f, h => by
    have h1 := sum_le f fun x hx => h x (List.mem_cons_of_mem _ hx)
    have h2 := h a List.mem_cons_self
    rw [List.sum_cons, List.length_cons, Nat.succ_mul]
    omega
theorem val_ones {f : F} {m : Nat} (hl : f.length = m + 1) : valF f (List.replicate m 1) = f.sum := by
  cases f with
  | nil => simp at hl
  | cons a f =>
    have e : f.length = m := by simpa using hl
    unfold valF
    rw [List.tail_cons, ← e, dot_ones, List.sum_cons]
    rfl
/-- what is drawn is short -/
theorem Stp.short {m : Nat} {ps : List Pn} (h : Stp 0 m ps) (hm : m ≤ 3) (hw : ∀ p ∈ ps, p.1.length ≤ 600) : (wr (List.replicate m 1) ps).length ≤ 5 * 9600 := by
  have := wr_le (pt := List.replicate m 1) (k := 9600) ps fun p hp => by
    have e : (wrt (List.replicate m 1) p).length = p.1.length * valF p.2 (List.replicate m 1) := WM.pw_len _ _
    have l := h.len p hp
    have s := sum_le p.2 (h.up p hp)
    rw [l] at s
    have : (m + 1) * (4 * 2 ^ 0) ≤ 4 * 4 := Nat.mul_le_mul (by omega) (by decide)
    rw [e, val_ones l]
    exact Nat.le_trans (Nat.mul_le_mul (hw p hp) (Nat.le_trans s this)) (by decide)
  have few := h.few
  have : ps.length * 9600 ≤ 5 * 9600 := Nat.mul_le_mul_right _ (by omega)
  omega
theorem Stp.wl {m : Nat} {ps : List Pn} (h : Stp 0 m ps) (hm : m ≤ 3) : Wl m ps := Nat.lt_of_le_of_lt (h.short hm h.ws) (by decide +kernel)
theorem Stp.wl1 {m : Nat} {ps : List Pn} (h : Stp 0 m ps) (hm : m ≤ 3) : (wr (List.replicate m 1) ps).length + 1 < 2 ^ 900 := Nat.lt_of_le_of_lt (Nat.succ_le_succ (h.short hm h.ws)) (by decide +kernel)
section
variable {P : Program} {w : World} {K : PySem.W.Frag} {mg : Str → Option Value} {base : Heap} {C : Addr}
def sp_law_yes : Sp := fun vs H Q _ => ∃ b c : Bool, vs = [.bl b, .bl c] ∧ b = c ∧ Q (.bl true) H
theorem c_law_yes (T : Txt K mg C) : C8.Cal P w K mg base 1 "_law_yes" sp_law_yes [] := by
  refine calF T.d_law_yes sc_law_yes (fun vs H Q E h => ?_) (fun f cdv A outer s H vs Q E hr h => ?_)
  · obtain ⟨_, _, rfl, _⟩ := h; rfl
  · obtain ⟨b, c, rfl, rfl, q⟩ := h
    refine ⟨_, (pss_one (ps_ret (pe_and (pe_callB call_isK (by rfl) T.m_isinstance (by decide +kernel) (pa_cons (pv 0) (pa_cons (pe_bltn (v := .ty "bool") (by rfl) T.m_bool (by decide +kernel) rfl) pa_nil))) (pe_one (pe_cmpR op_eq (pv 0) (pv 1) (nomark _)))))), ?_⟩
    refine ⟨_, rfl, .bl b, "bool", _, rfl, .bl b, kit_bool (.bl b), _, rfl, iteT ⟨_, rfl, _, rfl, rfl, ?_⟩⟩
    rw [decide_eq_true rfl]
    exact q
/-- from the twelve steps on -/
theorem right_tail (T : Txt K mg C) (f0 : Addr) (cdv : Value) (A : Around) (outer : List Env) (s : Shared) (H0 : Hp) (E : XK) (hr : Room 9 (A.deeper (envOfC "_law_right" (C8.fnScope (topS 63)) s.heap.objs.size f0 cdv))) :
    ∃ u, PSs (cxOf C8.CX0 P w K mg base ["_law_generator_here", "_law_many", "_law_letters_here", "_law_first", "_law_told", "_law_pieces", "_law_given", "_law_kept", "_law_text", "_law_other", "_law_turn", "_law_changed"] "_law_right" (C8.fnScope (topS 63)) f0 cdv A outer s H0 E).nox ((C8.fnBody (topS 63)).drop 9) u ∧
      ∀ (D : Ends) (σ : L2.St) (H : Hp) (g l4 l5 x r : Addr) (m : Nat) (cs : List Nat) (ps : List Pn) (y3 y6 y7 y9 : Option V), σ = [some (.ref g), some (.int (m : Nat)), some (.str (S cs)), y3, some (.ref l4), some (.ref l5), y6, y7, some (.ref x), y9, none, none] →
        m ≤ 3 → cs.length = 3 → Low cs → Gn 10000 H g → GL H m l4 (normL ps) → l4 ≠ g → PL H l5 ps → l5 ≠ g → Stp 0 m ps → Wl m ps → OTl C H x r m (normL ps) → r ≠ g → (normL ps).length ≤ 4000 →
        (∀ H', SameX g H H' → D.rt (.bl true) H') → u D σ H := by
  refine ⟨_, (pss_cons (ps_for PassesOwn.never rfl (pi_range1 (by rfl) T.m_range (pa_cons pe_int pa_nil)) (pg_name (i := 10) sc_law_right.nd rfl (Or.inl rfl))
    (pss_cons (ps_set (i := 5) sc_law_right.nd rfl (Or.inl rfl) (C8.pe_c (c_law_stepped T) hr (by decide) (by rfl) (pa_cons (pv 0) (pa_cons (pv 1) (pa_cons (pv 2) (pa_cons (pv 5) pa_nil))))))
    (pss_one (ps_if (PW.pt (pw_or (pt_cmpR (op_neSame hr.units) (C8.pe_c (c_normal T) hr (by decide) (by rfl) (pa_cons (pv 1) (pa_cons (pe_callTy call_list_of (by rfl) T.m_list (by decide +kernel) (pa_cons (pv 5) pa_nil)) pa_nil))) (pv 4) (nomark _)) (pw_or1 (pt_not (pt_val (C8.pe_c (c_law_yes T) hr (by decide) (by rfl) (pa_cons (C8.pe_c (c_is_normal T) hr (by decide) (by rfl) (pa_cons (pv 1) (pa_cons (pe_callTy call_list_of (by rfl) T.m_list (by decide +kernel) (pa_cons (pv 5) pa_nil)) pa_nil))) (pa_cons (pe_cmpR (op_eqD hr.units) (pv 5) (pv 4) (nomark _)) pa_nil))))))))
    (pss_one (ps_ret pe_bl))
    pss_nil))))
    (pss_cons (ps_set (i := 9) sc_law_right.nd rfl (Or.inl rfl) (C8.pe_mk (n_OpenText T) hr (by decide) (by rfl) (pa_cons (pv 1) (pa_cons (pe_callTy call_list_of (by rfl) T.m_list (by decide +kernel) (pa_cons (pv 5) pa_nil)) pa_nil))))
    (pss_cons (ps_if (PW.pt (pw_or (pt_cmpR (op_neSame hr.units) (C8.pe_mt0 (m_OpenText_pieces T) hr (by decide) (pv 8)) (pv 4) (nomark _)) (pw_or (pt_cmpR (op_neSame hr.units) (C8.pe_mt0 (m_OpenText_pieces T) hr (by decide) (pv 9)) (pv 4) (nomark _)) (pw_or (pt_cmpR op_notBl (pe_cmpR (op_eqO (m_OpenText___eq__ T) hr (by decide)) (pv 9) (pv 8) (nomark _)) pe_bl (nomark _)) (pw_or1 (pt_cmpR op_ne (C8.pe_mt0 (m_OpenText_many T) hr (by decide) (pv 8)) (pv 1) (nomark _)))))))
    (pss_one (ps_ret pe_bl))
    pss_nil)
    (pss_cons (ps_set (i := 7) sc_law_right.nd rfl (Or.inl rfl) (C8.pe_mt0 (m_OpenText_pieces T) hr (by decide) (pv 8)))
    (pss_cons (ps_expr (pe_bm PySem.F.plainAttrs_list PySem.F.slot_list_append PySem.F.type_list_append mt_append (pv 7) (pa_cons pe_non pa_nil)))
    (pss_cons (ps_set (i := 11) sc_law_right.nd rfl (Or.inl rfl) (pe_op op_cat (pv 4) (pe_lst (pa_cons (pe_tup (pa_cons (pe_slice C8.sl_txt (pv 2) po_none (po_some pe_int)) (pa_cons (C8.pe_c (c_law_plain T) hr (by decide) (by rfl) (pa_cons (pv 1) (pa_cons pe_int pa_nil))) pa_nil))) pa_nil))))
    (pss_one (ps_ret (pe_and (pe_cmpR (op_eqD hr.units) (C8.pe_mt0 (m_OpenText_pieces T) hr (by decide) (pv 8)) (pv 4) (nomark _)) (pe_and (pe_cmpR (op_neD hr.units) (C8.pe_c (c_normal T) hr (by decide) (by rfl) (pa_cons (pv 1) (pa_cons (pv 11) pa_nil))) (pv 4) (nomark _)) (pe_one (pe_cmpR op_isBl (pe_cmpR (op_eqO (m_OpenText___eq__ T) hr (by decide)) (C8.pe_mk (n_OpenText T) hr (by decide) (by rfl) (pa_cons (pv 1) (pa_cons (pv 11) pa_nil))) (pv 8) (nomark _)) pe_bl (nomark _))))))))))))), ?_⟩
  intro D σ H g l4 l5 x r m cs ps y3 y6 y7 y9 eσ m3 lcs lowc G g4 l4g pl5 l5g st0 hw ot rg few q
  subst eσ
  have lF := st0.len
  have nid : normL (normL ps) = normL ps := normL_id (nm_normL lF)
  refine ⟨12, rfl, by decide, by decide, ?_⟩
  refine for_it walk_range (fun i σ H' => i ≤ 12 ∧ SameX g H H' ∧ Gn (20 * (12 - i) + 1) H' g ∧ ∃ (lp : Addr) (qs : List Pn) (y10 : Option V), σ = [some (.ref g), some (.int (m : Nat)), some (.str (S cs)), y3, some (.ref l4), some (.ref lp), y6, y7, some (.ref x), y9, y10, none] ∧ lp ≠ g ∧ PL H' lp qs ∧ Stp i m qs ∧ SameW m ps qs)
    ⟨by decide, .refl _ _, G.le (by decide), l5, ps, none, rfl, l5g, pl5, st0, SameW.rfl'⟩ (fun _ _ _ _ _ => True.intro) (fun i y σ H1 H2 hi pI yy => ?_) fun σ H1 pI => ?_
  · obtain ⟨_, s1, G1, lp, qs, y10, rfl, lpg, pl, st, sw⟩ := pI
    obtain ⟨rfl, rfl⟩ := yy
    have i12 : i < 12 := hi
    have e20 : 20 * (12 - i) + 1 = 20 * (12 - (i + 1)) + 1 + 20 := by omega
    rw [e20] at G1
    refine ⟨_, rfl, _, rfl, _, rfl, _, rfl, g, lp, m, i, 20 * (12 - (i + 1)) + 1, cs, qs, rfl, lcs, lowc, pl, st, i12, m3, lpg, G1, fun lq rs H3 s3 G3 lqg pl3 st3 sw3 => ?_⟩
    have sw' := sw.trans sw3
    have nrs : normL rs = normL ps := norm_same st3.len lF sw'
    have s13 := s1.trans s3
    have g43 := g4.sameG G l4g s13
    have me3 := st3.me
    have glq := st3.gl pl3 (by omega)
    obtain ⟨us, hus, pus⟩ := id pl3
    refine ⟨_, rfl, _, rfl, lq, us, rfl, .inl (.inl (.inl hus)), fun La nLa => ?_⟩
    have sLa := sameNew (o := .lst us) nLa
    have gla : GL (upd H3 La (.lst us)) m La rs := ⟨⟨us, upd_same, pus.same sLa⟩, glq.len, glq.ws, glq.low, glq.bf, glq.few⟩
    generalize upd H3 La (.lst us) = H4 at sLa gla
    refine ⟨m, La, rs, rfl, m3, gla, by omega, fun ln H5 s5 nn pn => ⟨_, rfl, .list ((normL ps).map dP), ?_, ?_, shaped_dPs g4.low, _, rfl, iteF ?_⟩⟩
    · rw [nrs] at pn
      exact dp_PL pn
    · exact dp_PL (g43.same (sLa.trans s5)).at_
    have s45 := sLa.trans s5
    refine ⟨_, rfl, _, rfl, lq, us, rfl, .inl (.inl (.inl (s45 _ _ hus))), fun Lb nLb => ?_⟩
    have sLb := sameNew (o := .lst us) nLb
    have glb : GL (upd H5 Lb (.lst us)) m Lb rs := ⟨⟨us, upd_same, (pus.same s45).same sLb⟩, glq.len, glq.ws, glq.low, glq.bf, glq.few⟩
    generalize upd H5 Lb (.lst us) = H6 at sLb glb
    refine ⟨m, _, rfl, m3, .inr ⟨Lb, rs, rfl, glb, fun H7 s7 => ?_⟩⟩
    have s67 := s45.trans (sLb.trans s7)
    refine ⟨_, rfl, _, rfl, .list (rs.map dP), .list ((normL ps).map dP), dp_PL (glq.same s67).at_, dp_PL (g43.same s67).at_, shaped_dPs glq.low, shaped_dPs g4.low, _, _, rfl, ?_, _, rfl, iteF ?_⟩
    · rw [eqv_dPs, decide_eq_true (show meas rs ≤ 2000 by omega), Bool.true_and, nrs]
      by_cases z : normL ps = rs
      · rw [decide_eq_true z, decide_eq_true z.symm]
      · rw [decide_eq_false z, decide_eq_false fun y => z y.symm]
    · exact ⟨i12, s13.trans (.of s67), (G3.same s67), lq, rs, _, rfl, lqg, pl3.same s67, st3, sw'⟩
  · obtain ⟨_, s1, G1, lp, qs, y10, rfl, lpg, pl, st, sw⟩ := pI
    have nqs : normL qs = normL ps := norm_same st.len lF sw
    have hwq := sw.wl hw
    have me := st.me
    have glq := st.gl pl (by decide)
    have g41 := g4.sameG G l4g s1
    have ot1 := ot.sameG G rg s1
    obtain ⟨us, hus, pus⟩ := id pl
    have e12 : ((12 : Int)).toNat = 12 := rfl
    -- the text of the last list
    refine ⟨_, rfl, _, rfl, lp, us, rfl, .inl (.inl (.inl hus)), fun La nLa => ?_⟩
    have sLa := sameNew (o := .lst us) nLa
    have gla : GL (upd H1 La (.lst us)) m La qs := ⟨⟨us, upd_same, pus.same sLa⟩, glq.len, glq.ws, glq.low, glq.bf, glq.few⟩
    generalize upd H1 La (.lst us) = H2 at sLa gla
    intro x2 dx2 nx2 ndx2 nex2
    refine mk_text nx2 ndx2 nex2 gla m3 (by rw [e12] at me; omega) hwq fun r2 H3 s3 nr2 ot2 => ⟨rfl, ?_⟩
    rw [nqs] at ot2
    have s23 := sLa.trans s3
    have ot3 := ot1.same s23
    have g43 := g41.same s23
    obtain ⟨⟨dx, hx⟩, gx⟩ := id ot3
    obtain ⟨⟨dx', hx2⟩, gx2⟩ := id ot2
    refine ⟨_, rfl, x, dx, _, rfl, hx, (OF_no r m).1, x, m, normL ps, rfl, ⟨r, ot3⟩, fun Lb H4 s4 nLb gb => ⟨_, rfl, .list ((normL ps).map dP), gb.dpP, (g43.same s4).dpP, shaped_dPs g4.low, _, rfl, iteF ?_⟩⟩
    refine ⟨_, rfl, x2, dx', _, rfl, s4 _ _ hx2, (OF_no r2 m).1, x2, m, normL ps, rfl, ⟨r2, ot2.same s4⟩, fun Lc H5 s5 nLc gc => ⟨_, rfl, .list ((normL ps).map dP), gc.dpP, (g43.same (s4.trans s5)).dpP, shaped_dPs g4.low, _, rfl, iteF ?_⟩⟩
    have s45 := s4.trans s5
    refine ⟨_, rfl, _, rfl, x2, x, dx', _, dx, _, rfl, rfl, s45 _ _ hx2, s45 _ _ hx, x2, x, m, m, normL ps, normL ps, rfl, ⟨r2, ot2.same s45⟩, ⟨r, ot3.same s45⟩, ⟨_, rfl⟩, ?_⟩
    rw [decide_eq_true (rfl : m = m), decide_eq_true (rfl : normL ps = normL ps), Bool.true_and]
    refine ⟨true, true, rfl, rfl, _, rfl, iteF ?_⟩
    refine ⟨_, rfl, x, dx, _, rfl, s45 _ _ hx, (OF_no r m).2, x, m, normL ps, rfl, ⟨r, ot3.same s45⟩, _, rfl, rfl, _, rfl, iteNS rfl ?_⟩
    -- its pieces changed
    refine ⟨_, rfl, x, dx, _, rfl, s45 _ _ hx, (OF_no r m).1, x, m, normL ps, rfl, ⟨r, ot3.same s45⟩, fun Ld H6 s6 nLd gd => ?_⟩
    obtain ⟨ud, hud, pud⟩ := id gd.at_
    have lud := pud.len
    refine ⟨_, rfl, .inl ⟨rfl, _, .inl (.inl hud)⟩, Ld, _, _, rfl, rfl, hud, by rw [sizeLine_eq]; omega, ?_⟩
    have s7 : Same H5 (upd H6 Ld (.lst (ud ++ [V.non]))) := same_upd2 nLd s6
    generalize upd H6 Ld (.lst (ud ++ [V.non])) = H7 at s7
    have s47 := s45.trans s7
    have g47 := g43.same s47
    have ot7 := ot3.same s47
    obtain ⟨u4, hu4, pu4⟩ := id g47.at_
    have lu4 := pu4.len
    obtain ⟨c0, c1, c2, rfl⟩ : ∃ c0 c1 c2, cs = [c0, c1, c2] := by
      match cs, lcs with
      | [a, b, c], _ => exact ⟨a, b, c, rfl⟩
    have low0 : Low [c0] := fun d hd => lowc d (by rw [List.mem_singleton.mp hd]; simp)
    refine ⟨_, rfl, _, rfl, 1, rfl, S [c0, c1, c2], rfl, len_line (by simp), ?_⟩
    rw [SX.slice_to (by decide), show [c0, c1, c2].take (Int.toNat 1) = [c0] from rfl]
    refine ⟨_, rfl, m, 1, rfl, m3, fun p8 H8 s8 h8 => ⟨by show 2 ≤ sizeLine; decide, fun ta na => ⟨by show 1 ≤ sizeLine; decide, fun Le nLe => ?_⟩⟩⟩
    have sa := sameNew (o := .tup [.str (S [c0]), .ref p8]) na
    have sL := sameNew (o := .lst [.ref ta]) nLe
    refine ⟨l4, Le, u4, _, rfl, rfl, sL _ _ (sa _ _ (s8 _ _ hu4)), upd_same, by rw [sizeLine_eq]; simp; omega, fun Lf nLf => ?_⟩
    have sF := sameNew (o := .lst (u4 ++ [.ref ta])) nLf
    have eta := sF _ _ (sL _ _ (upd_same (H := H8) (a := ta) (o := .tup [.str (S [c0]), .ref p8])))
    have ep := sF _ _ (sL _ _ (sa _ _ h8))
    have eF := upd_same (H := upd (upd H8 ta (.tup [.str (S [c0]), .ref p8])) Le (.lst [.ref ta])) (a := Lf) (o := .lst (u4 ++ [.ref ta]))
    have s78 := s8.trans ((sa.trans sL).trans sF)
    generalize upd (upd (upd H8 ta (.tup [.str (S [c0]), .ref p8])) Le (.lst [.ref ta])) Lf (.lst (u4 ++ [.ref ta])) = H9 at eta ep eF s78
    have g9 : GL H9 m Lf (normL ps ++ [([c0], one1 m)]) := by
      refine ⟨⟨_, eF, (pu4.same s78).app (.one ⟨p8, eta, ep⟩)⟩, fun p hp => ?_, fun p hp => ?_, fun p hp => ?_, fun p hp => ?_, by rw [List.length_append, List.length_singleton]; omega⟩
      · rcases List.mem_append.mp hp with z | z
        · exact g4.len p z
        · rw [List.mem_singleton.mp z]; exact len_one1 m
      · rcases List.mem_append.mp hp with z | z
        · exact g4.ws p z
        · rw [List.mem_singleton.mp z]; show 1 ≤ 2000; decide
      · rcases List.mem_append.mp hp with z | z
        · exact g4.low p z
        · rw [List.mem_singleton.mp z]; exact low0
      · rcases List.mem_append.mp hp with z | z
        · exact g4.bf p z
        · rw [List.mem_singleton.mp z]
          intro n hn
          rcases List.mem_cons.mp hn with y | y
          · rw [y]; exact Nat.one_lt_two_pow (by decide)
          · rw [List.eq_of_mem_replicate y]; exact Nat.two_pow_pos _
    have m9 : meas (normL ps ++ [([c0], one1 m)]) ≤ 2000 := by
      have h1 : measP (([c0], one1 m) : Pn) = 1 := measP_fix [c0] m
      have := meas_normL lF
      have := st0.me
      rw [meas_app, meas_one, h1]
      omega
    have w9 : ∀ pt : List Nat, wr pt (normL ps ++ [([c0], one1 m)]) = wr pt ps ++ [c0] := fun pt => by
      rw [wr_app, wr_normL lF, wr_one]
      congr 1
      exact wrt_fix pt [c0] m
    have hw9 : Wl m (normL ps ++ [([c0], one1 m)]) := by
      unfold Wl
      rw [w9, List.length_append, List.length_singleton]
      exact st0.wl1 m3
    have n9 : normL (normL ps ++ [([c0], one1 m)]) ≠ normL ps := fun z => by
      have a1 := wr_normL g9.len (List.replicate m 1)
      rw [z, w9, wr_normL lF] at a1
      have := congrArg List.length a1
      rw [List.length_append, List.length_singleton] at this
      omega
    have s49 := s47.trans s78
    obtain ⟨⟨dx9, hx9⟩, gx9⟩ := id (ot7.same s78)
    refine ⟨_, rfl, x, dx9, _, rfl, hx9, (OF_no r m).1, x, m, normL ps, rfl, ⟨r, ot7.same s78⟩, fun Lg H10 s10 nLg gg => ⟨_, rfl, .list ((normL ps).map dP), .list ((normL ps).map dP), gg.dpP, (g47.same (s78.trans s10)).dpP, shaped_dPs g4.low, shaped_dPs g4.low, ?_⟩⟩
    rw [eqv_dPs, decide_eq_true rfl]
    refine ⟨_, rfl, iteT ⟨_, rfl, _, rfl, m, Lf, _, rfl, m3, g9.same s10, m9, fun r11 H11 s11 n11 p11 => ⟨_, rfl, .list ((normL (normL ps ++ [([c0], one1 m)])).map dP), .list ((normL ps).map dP), dp_PL p11, (g47.same (s78.trans (s10.trans s11))).dpP, shaped_dPs (lowP_normL g9.low), shaped_dPs g4.low, ?_⟩⟩⟩
    rw [eqv_dPs, decide_eq_false n9]
    have s1011 := s10.trans s11
    refine ⟨_, rfl, iteT ?_⟩
    refine ⟨_, rfl, _, rfl, fun x3 dx3 nx3 ndx3 nex3 => mk_text nx3 ndx3 nex3 (g9.same s1011) m3 m9 hw9 fun r3 H12 s12 nr3 ot12 => ⟨rfl, ?_⟩⟩
    obtain ⟨⟨dx12, hx12⟩, _⟩ := id ot12
    have otx := (ot7.same s78).same (s1011.trans s12)
    obtain ⟨⟨dx13, hx13⟩, _⟩ := id otx
    refine ⟨_, rfl, x3, x, dx12, _, dx13, _, rfl, rfl, hx12, hx13, x3, x, m, m, _, normL ps, rfl, ⟨r3, ot12⟩, ⟨r, otx⟩, ⟨_, rfl⟩, ?_⟩
    rw [decide_eq_true (rfl : m = m), decide_eq_false n9, Bool.true_and]
    refine ⟨false, false, rfl, rfl, ?_⟩
    exact q _ (s1.trans (.of (s23.trans (s49.trans (s1011.trans s12)))))
end
end K13

set_option Elab.async false
set_option linter.all false
set_option maxRecDepth 100000
set_option maxHeartbeats 4000000
namespace K13
open PySem PySem.Spec PyProof.Rows L2 CK SX NM
theorem Dr.stp {m : Nat} {ps : List Pn} (d : Dr m ps) (few : ps.length ≤ 5) : Stp 0 m ps := by
  refine ⟨fun p hp => (d p hp).1, fun p hp => (d p hp).2.2.1, ?_, fun p hp => by have := (d p hp).2.1; omega, fun p hp _ => by have := (d p hp).2.1; omega, by omega, fun p hp x hx => by have := (d p hp).2.2.2 x hx; omega⟩
  have := meas_le (k := 60) ps fun p hp => by
    obtain ⟨hl, hw, _, hf⟩ := d p hp
    have h0 : p.2.headD 0 ≤ 4 := by
      cases e : p.2 with
      | nil => rw [e] at hl; simp at hl
      | cons a l => exact hf a (by rw [e]; exact List.mem_cons_self)
    unfold measP
    have : p.2.headD 0 + (if isOpen p.2 = true then 1 else 0) ≤ 5 := by split <;> omega
    exact Nat.mul_le_mul hw this
  have : ps.length * 60 ≤ 5 * 60 := Nat.mul_le_mul_right _ few
  omega
section
variable {P : Program} {w : World} {K : PySem.W.Frag} {mg : Str → Option Value} {base : Heap} {C : Addr}
def sp_law_right : Sp := fun vs H Q _ => ∃ g : Addr, vs = [.ref g] ∧ Gn 90000 H g ∧ ∀ H', SameX g H H' → Q (.bl true) H'
theorem c_law_right (T : Txt K mg C) : C8.Cal P w K mg base 10 "_law_right" sp_law_right [] := by
  refine calF T.d_law_right sc_law_right (fun vs H Q E h => ?_) (fun f0 cdv A outer s H vs Q E hr h => ?_)
  · obtain ⟨_, rfl, _⟩ := h; rfl
  · obtain ⟨g, rfl, G, q⟩ := h
    obtain ⟨u2, hu2, tail⟩ := right_tail (P := P) (w := w) (base := base) T f0 cdv A outer s H E hr
    refine ⟨_, (pss_cons (ps_par (i := 1) (j := 2) (by rfl) sc_law_right.nd rfl rfl (by decide) rfl rfl (pa_cons (C8.pe_c (c_law_random T) hr (by decide) (by rfl) (pa_cons (pv 0) (pa_cons pe_int pa_nil))) (pa_cons (C8.pe_c (c_law_letters T) hr (by decide) (by rfl) (pa_cons (pv 0) pa_nil)) pa_nil)) (by rfl))
    (pss_cons (ps_set (i := 3) sc_law_right.nd rfl (Or.inl rfl) (C8.pe_c (c_law_raw T) hr (by decide) (by rfl) (pa_cons (pv 0) (pa_cons (pv 1) (pa_cons (pv 2) (pa_cons (C8.pe_c (c_law_random T) hr (by decide) (by rfl) (pa_cons (pv 0) (pa_cons pe_int pa_nil))) (pa_cons pe_int pa_nil)))))))
    (pss_cons (ps_par (i := 4) (j := 5) (by rfl) sc_law_right.nd rfl rfl (by decide) rfl rfl (pa_cons (C8.pe_c (c_normal T) hr (by decide) (by rfl) (pa_cons (pv 1) (pa_cons (pe_callTy call_list_of (by rfl) T.m_list (by decide +kernel) (pa_cons (pv 3) pa_nil)) pa_nil))) (pa_cons (pe_callTy call_list_of (by rfl) T.m_list (by decide +kernel) (pa_cons (pv 3) pa_nil)) pa_nil)) (by rfl))
    (pss_cons (ps_par (i := 6) (j := 7) (by rfl) sc_law_right.nd rfl rfl (by decide) rfl rfl (pa_cons (pe_callTy call_list_of (by rfl) T.m_list (by decide +kernel) (pa_cons (pv 3) pa_nil)) (pa_cons (pe_callTy call_list_of (by rfl) T.m_list (by decide +kernel) (pa_cons (pv 4) pa_nil)) pa_nil)) (by rfl))
    (pss_cons (ps_par (i := 8) (j := 9) (by rfl) sc_law_right.nd rfl rfl (by decide) rfl rfl (pa_cons (C8.pe_mk (n_OpenText T) hr (by decide) (by rfl) (pa_cons (pv 1) (pa_cons (pv 6) pa_nil))) (pa_cons (C8.pe_mk (n_OpenText T) hr (by decide) (by rfl) (pa_cons (pv 1) (pa_cons (pv 7) pa_nil))) pa_nil)) (by rfl))
    (pss_cons (ps_if (PW.pt (pw_or (pt_cmpR (op_neSame hr.units) (pv 6) (pv 3) (nomark _)) (pw_or1 (pt_cmpR (op_neSame hr.units) (pv 7) (pv 4) (nomark _)))))
    (pss_one (ps_ret pe_bl))
    pss_nil)
    (pss_cons (ps_expr (pe_bm PySem.F.plainAttrs_list PySem.F.slot_list_append PySem.F.type_list_append mt_append (pv 6) (pa_cons (pe_tup (pa_cons (pv 2) (pa_cons (C8.pe_c (c_law_plain T) hr (by decide) (by rfl) (pa_cons (pv 1) (pa_cons pe_int pa_nil))) pa_nil))) pa_nil)))
    (pss_cons (ps_expr (pe_bm PySem.F.plainAttrs_list PySem.F.slot_list_append PySem.F.type_list_append mt_append (pv 7) (pa_cons (pe_tup (pa_cons (pv 2) (pa_cons (C8.pe_c (c_law_plain T) hr (by decide) (by rfl) (pa_cons (pv 1) (pa_cons pe_int pa_nil))) pa_nil))) pa_nil)))
    (pss_cons (ps_if (PW.pt (pw_or (pt_cmpR (op_neSame hr.units) (C8.pe_mt0 (m_OpenText_pieces T) hr (by decide) (pv 8)) (pv 4) (nomark _)) (pw_or (pt_cmpR (op_neSame hr.units) (C8.pe_mt0 (m_OpenText_pieces T) hr (by decide) (pv 9)) (pv 4) (nomark _)) (pw_or1 (pt_cmpR (op_neSame hr.units) (C8.pe_c (c_normal T) hr (by decide) (by rfl) (pa_cons (pv 1) (pa_cons (pe_callTy call_list_of (by rfl) T.m_list (by decide +kernel) (pa_cons (pv 3) pa_nil)) pa_nil))) (pv 4) (nomark _))))))
    (pss_one (ps_ret pe_bl))
    pss_nil)
    hu2))))))))), ?_⟩
    refine ⟨_, rfl, g, 4, 80000, rfl, G.le (by decide), by decide, by decide, fun r H1 s1 G1 r0 r1 => ⟨_, rfl, g, 70000, rfl, G1.le (by decide), fun cs H3 s2 G3 lcs lowc nd => ⟨_, _, rfl, ?_⟩⟩⟩
    obtain ⟨m, rfl⟩ : ∃ m : Nat, r = m := ⟨r.toNat, by omega⟩
    have m3 : m ≤ 3 := by omega
    have sx3 := s1.trans s2
    refine ⟨_, rfl, _, rfl, _, rfl, _, rfl, g, 6, 60000, rfl, G3.le (by decide), by decide, by decide, fun r4 H4 s4 G4 r40 r41 => ?_⟩
    obtain ⟨cnt, rfl⟩ : ∃ k : Nat, r4 = k := ⟨r4.toNat, by omega⟩
    refine ⟨g, cs, m, cnt, 4, 40000, rfl, lcs, lowc, m3, by decide, by omega, G4.le (by decide), fun L ps H6 gr G6 lps dr => ?_⟩
    have st := dr.stp (by omega)
    have gl6 := st.gl gr.pl (by decide)
    have sx6 := (sx3.trans s4).trans gr.sx
    have hw := st.wl m3
    have me := st.me
    have few := st.few
    have Lg := gr.ne
    obtain ⟨us, hus, pus⟩ := id gl6.at_
    have nm := nm_normL st.len
    have nid := normL_id nm
    have mle := meas_normL st.len
    have sm := nm.small (B := 300) (by omega)
    -- told, pieces
    refine ⟨_, rfl, _, rfl, L, us, rfl, .inl (.inl (.inl hus)), fun La nLa => ?_⟩
    have sLa := sameNew (o := .lst us) nLa
    have gla : GL (upd H6 La (.lst us)) m La ps := ⟨⟨us, upd_same, pus.same sLa⟩, gl6.len, gl6.ws, gl6.low, gl6.bf, gl6.few⟩
    generalize upd H6 La (.lst us) = H7 at sLa gla
    refine ⟨m, La, ps, rfl, m3, gla, by omega, fun l4 H8 s8 n4 p4 => ?_⟩
    have s68 := sLa.trans s8
    have G8 := G6.same s68
    have l4g := (G6.same sLa).ne n4
    have g4 : GL H8 m l4 (normL ps) := ⟨p4, nm.lenF, fun p hp => by have := sm.2 p hp; omega, lowP_normL gl6.low, bf_normL st.len hw, by have := sm.1; omega⟩
    refine ⟨_, rfl, L, us, rfl, .inl (.inl (.inl (s68 _ _ hus))), fun l5 nl5 => ⟨_, _, rfl, ?_⟩⟩
    have s5 := sameNew (o := .lst us) nl5
    have l5g := G8.ne nl5
    have pl5 : PL (upd H8 l5 (.lst us)) l5 ps := ⟨us, upd_same, (pus.same s68).same s5⟩
    have hus9 := s5 _ _ (s68 _ _ hus)
    have g49 := g4.same s5
    have G9 := G8.same s5
    have pus9 := (pus.same s68).same s5
    have sx9 : SameX g H (upd H8 l5 (.lst us)) := sx6.trans (.of (s68.trans s5))
    have n45 : l4 ≠ l5 := fun z => by
      obtain ⟨v4, hv4, _⟩ := g4.at_
      rw [z, nl5] at hv4
      cases hv4
    generalize upd H8 l5 (.lst us) = H9 at pl5 hus9 g49 G9 pus9 sx9
    -- given, kept
    obtain ⟨u4, hu4, pu4⟩ := id g49.at_
    refine ⟨_, rfl, L, us, rfl, .inl (.inl (.inl hus9)), fun l6 nl6 => ?_⟩
    have s6 := sameNew (o := .lst us) nl6
    refine ⟨_, rfl, l4, u4, rfl, .inl (.inl (.inl (s6 _ _ hu4))), fun l7 nl7 => ⟨_, _, rfl, ?_⟩⟩
    have s7 := sameNew (o := .lst u4) nl7
    have s67 := s6.trans s7
    have e6 := s7 _ _ (upd_same (H := H9) (a := l6) (o := .lst us))
    have e7 := upd_same (H := upd H9 l6 (.lst us)) (a := l7) (o := .lst u4)
    have n67 : l6 ≠ l7 := fun z => by rw [← z, upd_same] at nl7; cases nl7
    have h9 : ∀ {l : Addr} {zs : List V}, H9 l = some (.lst zs) → l ≠ l6 ∧ l ≠ l7 := fun {l zs} e => by
      refine ⟨fun z => ?_, fun z => ?_⟩
      · rw [z, nl6] at e
        cases e
      · have := s6 _ _ e
        rw [z, nl7] at this
        cases this
    have g6 : GL (upd (upd H9 l6 (.lst us)) l7 (.lst u4)) m l6 ps := ⟨⟨us, e6, pus9.same s67⟩, gl6.len, gl6.ws, gl6.low, gl6.bf, gl6.few⟩
    have g7 : GL (upd (upd H9 l6 (.lst us)) l7 (.lst u4)) m l7 (normL ps) := ⟨⟨u4, e7, pu4.same s67⟩, g4.len, g4.ws, g4.low, g4.bf, g4.few⟩
    have G10 := G9.same s67
    have l6g := G9.ne nl6
    have l7g := (G9.same s6).ne nl7
    generalize upd (upd H9 l6 (.lst us)) l7 (.lst u4) = H10 at s67 e6 e7 g6 g7 G10
    -- the texts
    refine ⟨_, rfl, _, rfl, fun x dx nx ndx nex => mk_text nx ndx nex g6 m3 (by omega) hw fun r1' H11 s11 nr1 ot1 => ⟨rfl, ?_⟩⟩
    refine ⟨_, rfl, _, rfl, fun x2 dx2 nx2 ndx2 nex2 => mk_text nx2 ndx2 nex2 (g7.same s11) m3 (by omega) (wl_normL st.len hw) fun r2' H12 s12 nr2 ot2 => ⟨rfl, ⟨_, _, rfl, ?_⟩⟩⟩
    rw [nid] at ot2
    have s1012 := s11.trans s12
    have s912 := s67.trans s1012
    have pg6 := g6.same s1012
    have pg7 := g7.same s1012
    refine ⟨_, rfl, _, rfl, .list (ps.map dP), pg6.dpP, dp_PL (l := L) ⟨us, s912 _ _ hus9, pus9.same s912⟩, shaped_dPs gl6.low, _, rfl, iteF ?_⟩
    refine ⟨_, rfl, _, rfl, .list ((normL ps).map dP), pg7.dpP, (g49.same s912).dpP, shaped_dPs g4.low, _, rfl, iteF ?_⟩
    -- the lists that were handed in change
    have hr1 : r1' ≠ l6 ∧ r1' ≠ l7 := ⟨fun z => (by rw [z, e6] at nr1; cases nr1), fun z => (by rw [z, e7] at nr1; cases nr1)⟩
    have hr2 : r2' ≠ l6 ∧ r2' ≠ l7 := ⟨fun z => (by rw [z, s11 _ _ e6] at nr2; cases nr2), fun z => (by rw [z, s11 _ _ e7] at nr2; cases nr2)⟩
    have hL := h9 hus9
    have h4 := h9 hu4
    obtain ⟨u5, hu5, pu5⟩ := id pl5
    have h5 := h9 hu5
    have ot1' := ot1.same s12
    have e6' := s1012 _ _ e6
    have e7' := s1012 _ _ e7
    have lus := pus.len
    have lu4 := pu4.len
    refine ⟨_, rfl, .inl ⟨rfl, _, .inl (.inl e6')⟩, _, rfl, _, rfl, m, 1, rfl, m3, fun p13 H13 s13 h13 => ⟨by show 2 ≤ sizeLine; decide, fun ta na => ?_⟩⟩
    have sa := sameNew (o := .tup [.str (S cs), .ref p13]) na
    have s3a := s13.trans sa
    refine ⟨l6, _, _, rfl, rfl, s3a _ _ e6', by rw [sizeLine_eq]; omega, ?_⟩
    have k6 : SameX l6 H12 (upd (upd H13 ta (.tup [.str (S cs), .ref p13])) l6 (.lst (us ++ [.ref ta]))) := SameX.updL (.of s3a)
    have e7a : (upd (upd H13 ta (.tup [.str (S cs), .ref p13])) l6 (.lst (us ++ [.ref ta]))) l7 = some (.lst u4) := k6 _ _ n67.symm e7'
    generalize upd (upd H13 ta (.tup [.str (S cs), .ref p13])) l6 (.lst (us ++ [.ref ta])) = H14 at k6 e7a
    refine ⟨_, rfl, .inl ⟨rfl, _, .inl (.inl e7a)⟩, _, rfl, _, rfl, m, 1, rfl, m3, fun p15 H15 s15 h15 => ⟨by show 2 ≤ sizeLine; decide, fun tb nb => ?_⟩⟩
    have sb := sameNew (o := .tup [.str (S cs), .ref p15]) nb
    have s5b := s15.trans sb
    refine ⟨l7, _, _, rfl, rfl, s5b _ _ e7a, by rw [sizeLine_eq]; omega, ?_⟩
    have k7 : SameX l7 H14 (upd (upd H15 tb (.tup [.str (S cs), .ref p15])) l7 (.lst (u4 ++ [.ref tb]))) := SameX.updL (.of s5b)
    generalize upd (upd H15 tb (.tup [.str (S cs), .ref p15])) l7 (.lst (u4 ++ [.ref tb])) = H16 at k7
    -- all else stays
    have two : ∀ b o, b ≠ l6 → b ≠ l7 → H12 b = some o → H16 b = some o := fun b o h6 h7 e => k7 _ _ h7 (k6 _ _ h6 e)
    have o1 := (ot1'.sameL e6' hr1.1 k6).sameL e7a hr1.2 k7
    have o2 := (ot2.sameL e6' hr2.1 k6).sameL e7a hr2.2 k7
    have g4' := ((g49.same s912).sameL e6' h4.1 k6).sameL e7a h4.2 k7
    have gl' := (((⟨⟨us, hus9, pus9⟩, gl6.len, gl6.ws, gl6.low, gl6.bf, gl6.few⟩ : GL H9 m L ps).same s912).sameL e6' hL.1 k6).sameL e7a hL.2 k7
    have g5' := (((st.gl pl5 (by decide)).same s912).sameL e6' h5.1 k6).sameL e7a h5.2 k7
    have G16 : Gn 10000 H16 g := by
      obtain ⟨a, b, c, hg, rest⟩ := (G10.same s1012).le (m := 10000) (by decide)
      exact ⟨a, b, c, two _ _ l6g.symm l7g.symm hg, rest⟩
    obtain ⟨⟨d1, hx1⟩, _⟩ := id o1
    obtain ⟨⟨d2, hx2⟩, _⟩ := id o2
    refine ⟨_, rfl, x, d1, _, rfl, hx1, (OF_no r1' m).1, x, m, normL ps, rfl, ⟨r1', o1⟩, fun Lb H17 s17 nLb gb => ⟨_, rfl, .list ((normL ps).map dP), gb.dpP, (g4'.same s17).dpP, shaped_dPs g4.low, _, rfl, iteF ?_⟩⟩
    refine ⟨_, rfl, x2, d2, _, rfl, s17 _ _ hx2, (OF_no r2' m).1, x2, m, normL ps, rfl, ⟨r2', o2.same s17⟩, fun Lc H18 s18 nLc gc => ⟨_, rfl, .list ((normL ps).map dP), gc.dpP, (g4'.same (s17.trans s18)).dpP, shaped_dPs g4.low, _, rfl, iteF ?_⟩⟩
    have s1718 := s17.trans s18
    obtain ⟨us', hus', pus'⟩ := id (gl'.same s1718).at_
    refine ⟨_, rfl, _, rfl, L, us', rfl, .inl (.inl (.inl hus')), fun Ld nLd => ?_⟩
    have sLd := sameNew (o := .lst us') nLd
    have gd : GL (upd H18 Ld (.lst us')) m Ld ps := ⟨⟨us', upd_same, pus'.same sLd⟩, gl6.len, gl6.ws, gl6.low, gl6.bf, gl6.few⟩
    generalize upd H18 Ld (.lst us') = H19 at sLd gd
    refine ⟨m, Ld, ps, rfl, m3, gd, by omega, fun l20 H20 s20 n20 p20 => ⟨_, rfl, .list ((normL ps).map dP), dp_PL p20, (g4'.same (s1718.trans (sLd.trans s20))).dpP, shaped_dPs g4.low, _, rfl, iteF ?_⟩⟩
    have sEnd := s1718.trans (sLd.trans s20)
    have gh : ∀ b o, b ≠ g → H b = some o → H16 b = some o := fun b o hb e => by
      have e9 := sx9 b o hb e
      have e12 := s912 _ _ e9
      have b6 : b ≠ l6 := fun z => by rw [z, nl6] at e9; cases e9
      have b7 : b ≠ l7 := fun z => by
        have := s6 _ _ e9
        rw [z, nl7] at this
        cases this
      exact two b o b6 b7 e12
    have r1g : r1' ≠ g := G10.ne nr1
    refine tail _ _ H20 g l4 l5 x r1' m cs ps _ _ _ _ rfl m3 lcs lowc (G16.same sEnd) (g4'.same sEnd) l4g (g5'.same sEnd).at_ l5g st hw (o1.same sEnd) r1g (by have := sm.1; omega) fun H' s' => q H' (SameX.trans gh ((SameX.of sEnd).trans s'))
def sp_law (K : PySem.W.Frag) : Sp := fun vs H Q _ => ∃ (a : Addr) (ns : List Int), vs = [.ref a] ∧ SqL K H a (ns.map V.int) ∧ ns.length ≤ 63 ∧ ∀ H', Q (.bl true) H'
end
theorem law_end {l : PySem.W.OpenLaw} {w : World} {K : PySem.W.Frag} {mg : Str → Option Value} {fa C : Addr} (T : Txt K mg C) (hfa : mg "law" = some (.ref fa)) :
    ∃ fd : FuncData, (∀ (s : Shared) (v : Value), BindsTo s fd ⟨[v], []⟩ [("_law_script", v)]) ∧ ∀ base : Heap, K.In base → base.Ns mainGlobals mg → FnOk l.prog w K mg base C8.CX0 11 fa fd ["_law_script"] (sp_law K) := by
  obtain ⟨f, fd, hm, hb, hF⟩ := T.d_law.one
  have e := hfa.symm.trans hm
  cases e
  refine ⟨fd, hb, fun base _ _ => hF sc_law (fun vs H Q E h => ?_) (fun f cdv A outer s H vs Q E hr h => ?_)⟩
  · obtain ⟨_, _, rfl, _⟩ := h; rfl
  · obtain ⟨a, ns, rfl, hS, hl, q⟩ := h
    refine ⟨_, (pss_cons (ps_for PassesOwn.never rfl (pi_range1 (by rfl) T.m_range (pa_cons pe_int pa_nil)) (pg_name (i := 1) sc_law.nd rfl (Or.inl rfl))
    (pss_one (ps_if (pt_not (pt_val (C8.pe_c (c_law_right T) hr (by decide) (by rfl) (pa_cons (C8.pe_c (c_law_generator T) hr (by decide) (by rfl) (pa_cons (pv 0) (pa_cons (pv 1) pa_nil))) pa_nil))))
    (pss_one (ps_ret pe_bl))
    pss_nil)))
    (pss_one (ps_ret pe_bl))), ?_⟩
    refine ⟨2, rfl, by decide, by decide, ?_⟩
    refine for_it walk_range (fun i σ H' => Same H H' ∧ ∃ y1, σ = [some (.ref a), y1]) ⟨Same.refl _, none, rfl⟩ (fun _ _ _ _ _ => True.intro) (fun i x σ H' H'' hi p y => ?_) fun σ H' p => ?_
    · obtain ⟨s0, y1, rfl⟩ := p
      obtain ⟨rfl, rfl⟩ := y
      have i3 : i < 2 := hi
      refine ⟨_, rfl, _, rfl, a, ns, i, by show [V.ref a, V.int (0 + (i : Int))] = _; rw [Int.zero_add], s0.seq hS, by omega, fun g H1 H2 s1 n1 s2 G2 => ?_⟩
      refine ⟨g, rfl, G2.le (by decide), fun H3 s3 => ⟨_, rfl, iteF ⟨fun b o e => ?_, _, rfl⟩⟩⟩
      have e1 := s1 _ _ (s0 b o e)
      exact s3 b o (fun z => by rw [z, n1] at e1; cases e1) (s2 _ _ e1)
    · exact q H'
end K13

open PySem PySem.W PyProof.Rows
set_option maxHeartbeats 0 in
theorem PySem.Challenge.cw_countscribe_k13_whole_one_normal_list_holds : PySem.Challenge.rw_countscribe_k13_whole_one_normal_list.Holds := by
  w_on; o_law; k_head; (case hw => w_witness2)
  k_fill
  refine L2.walk_of (l := PySem.Challenge.rw_countscribe_k13_whole_one_normal_list) (n := 63) (k := 11) (x := "_law_script") (CX := fun _ => C8.CX0) (sp := fun w => K13.sp_law _) rfl (by decide) rfl ⟨rfl, by decide, by decide⟩ (fun w h Y => PySem.W.kIn_of Y) ?F (fun _ _ a ns hl _ hS => ⟨a, ns, rfl, hS, hl, fun _ => rfl⟩) (fun _ _ _ _ _ h => h)
  case F =>
    intro w mg fa h KX G hmg
    refine' CK.with_cls KX "OpenText" (CK.clF_mk KX G ?a ?pg ?hd ?po ?sa ?mk ?kp ?ha ?hn ?htk ?hm) fun k_OpenText => ?_
    (case a => k_is); (case pg => k_is); (case hd => k_is); (case po => k_is); (case sa => k_is); (case mk => k_is); (case kp => k_is); (case ha => k_is); (case hn => k_is); (case htk => k_is); (case hm => k_is)
    have f_many : L2.NoAttr _ _ "_many" := CK.noA k_OpenText "_many" (by k_is)
    have f_pieces : L2.NoAttr _ _ "_pieces" := CK.noA k_OpenText "_pieces" (by k_is)
    refine' CK.with_def KX "is_whole" (K13.topS 8) ["value"] (CK.defF_mk KX G ?a ?l ?c ?k fun _ _ _ _ _ _ us hl => match us, hl with | [_], _ => rfl) fun d_is_whole => ?_
    (case a => k_is); (case l => k_is); (case c => k_is); (case k => k_is)
    refine' CK.with_def KX "is_count" (K13.topS 9) ["value"] (CK.defF_mk KX G ?a ?l ?c ?k fun _ _ _ _ _ _ us hl => match us, hl with | [_], _ => rfl) fun d_is_count => ?_
    (case a => k_is); (case l => k_is); (case c => k_is); (case k => k_is)
    refine' CK.with_def KX "is_within" (K13.topS 10) ["value", "low", "high"] (CK.defF_mk KX G ?a ?l ?c ?k fun _ _ _ _ _ _ us hl => match us, hl with | [_, _, _], _ => rfl) fun d_is_within => ?_
    (case a => k_is); (case l => k_is); (case c => k_is); (case k => k_is)
    refine' CK.with_def KX "is_lettered" (K13.topS 11) ["value", "most"] (CK.defF_mk KX G ?a ?l ?c ?k fun _ _ _ _ _ _ us hl => match us, hl with | [_, _], _ => rfl) fun d_is_lettered => ?_
    (case a => k_is); (case l => k_is); (case c => k_is); (case k => k_is)
    refine' CK.with_def KX "need_within" (K13.topS 12) ["value", "low", "high"] (CK.defF_mk KX G ?a ?l ?c ?k fun _ _ _ _ _ _ us hl => match us, hl with | [_, _, _], _ => rfl) fun d_need_within => ?_
    (case a => k_is); (case l => k_is); (case c => k_is); (case k => k_is)
    refine' CK.with_def KX "need_many" (K13.topS 13) ["value"] (CK.defF_mk KX G ?a ?l ?c ?k fun _ _ _ _ _ _ us hl => match us, hl with | [_], _ => rfl) fun d_need_many => ?_
    (case a => k_is); (case l => k_is); (case c => k_is); (case k => k_is)
    refine' CK.with_def KX "is_form_for" (K13.topS 15) ["many", "value"] (CK.defF_mk KX G ?a ?l ?c ?k fun _ _ _ _ _ _ us hl => match us, hl with | [_, _], _ => rfl) fun d_is_form_for => ?_
    (case a => k_is); (case l => k_is); (case c => k_is); (case k => k_is)
    refine' CK.with_def KX "form_sum" (K13.topS 16) ["one", "other"] (CK.defF_mk KX G ?a ?l ?c ?k fun _ _ _ _ _ _ us hl => match us, hl with | [_, _], _ => rfl) fun d_form_sum => ?_
    (case a => k_is); (case l => k_is); (case c => k_is); (case k => k_is)
    refine' CK.with_def KX "form_times" (K13.topS 17) ["number", "form"] (CK.defF_mk KX G ?a ?l ?c ?k fun _ _ _ _ _ _ us hl => match us, hl with | [_, _], _ => rfl) fun d_form_times => ?_
    (case a => k_is); (case l => k_is); (case c => k_is); (case k => k_is)
    refine' CK.with_def KX "turned_word" (K13.topS 19) ["word", "by"] (CK.defF_mk KX G ?a ?l ?c ?k fun _ _ _ _ _ _ us hl => match us, hl with | [_, _], _ => rfl) fun d_turned_word => ?_
    (case a => k_is); (case l => k_is); (case c => k_is); (case k => k_is)
    refine' CK.with_def KX "stretch" (K13.topS 20) ["word", "start", "size"] (CK.defF_mk KX G ?a ?l ?c ?k fun _ _ _ _ _ _ us hl => match us, hl with | [_, _, _], _ => rfl) fun d_stretch => ?_
    (case a => k_is); (case l => k_is); (case c => k_is); (case k => k_is)
    refine' CK.with_def KX "alike_ahead" (K13.topS 21) ["one", "other"] (CK.defF_mk KX G ?a ?l ?c ?k fun _ _ _ _ _ _ us hl => match us, hl with | [_, _], _ => rfl) fun d_alike_ahead => ?_
    (case a => k_is); (case l => k_is); (case c => k_is); (case k => k_is)
    refine' CK.with_def KX "alike_behind" (K13.topS 22) ["one", "other"] (CK.defF_mk KX G ?a ?l ?c ?k fun _ _ _ _ _ _ us hl => match us, hl with | [_, _], _ => rfl) fun d_alike_behind => ?_
    (case a => k_is); (case l => k_is); (case c => k_is); (case k => k_is)
    refine' CK.with_def KX "border_sizes" (K13.topS 23) ["word"] (CK.defF_mk KX G ?a ?l ?c ?k fun _ _ _ _ _ _ us hl => match us, hl with | [_], _ => rfl) fun d_border_sizes => ?_
    (case a => k_is); (case l => k_is); (case c => k_is); (case k => k_is)
    refine' CK.with_def KX "root_size" (K13.topS 24) ["word"] (CK.defF_mk KX G ?a ?l ?c ?k fun _ _ _ _ _ _ us hl => match us, hl with | [_], _ => rfl) fun d_root_size => ?_
    (case a => k_is); (case l => k_is); (case c => k_is); (case k => k_is)
    refine' CK.with_def KX "is_piece" (K13.topS 29) ["many", "value"] (CK.defF_mk KX G ?a ?l ?c ?k fun _ _ _ _ _ _ us hl => match us, hl with | [_, _], _ => rfl) fun d_is_piece => ?_
    (case a => k_is); (case l => k_is); (case c => k_is); (case k => k_is)
    refine' CK.with_def KX "is_piece_list" (K13.topS 30) ["many", "value"] (CK.defF_mk KX G ?a ?l ?c ?k fun _ _ _ _ _ _ us hl => match us, hl with | [_, _], _ => rfl) fun d_is_piece_list => ?_
    (case a => k_is); (case l => k_is); (case c => k_is); (case k => k_is)
    refine' CK.with_def KX "is_open_form" (K13.topS 31) ["form"] (CK.defF_mk KX G ?a ?l ?c ?k fun _ _ _ _ _ _ us hl => match us, hl with | [_], _ => rfl) fun d_is_open_form => ?_
    (case a => k_is); (case l => k_is); (case c => k_is); (case k => k_is)
    refine' CK.with_def KX "is_power" (K13.topS 32) ["piece"] (CK.defF_mk KX G ?a ?l ?c ?k fun _ _ _ _ _ _ us hl => match us, hl with | [_], _ => rfl) fun d_is_power => ?_
    (case a => k_is); (case l => k_is); (case c => k_is); (case k => k_is)
    refine' CK.with_def KX "fixed_piece" (K13.topS 33) ["word", "many"] (CK.defF_mk KX G ?a ?l ?c ?k fun _ _ _ _ _ _ us hl => match us, hl with | [_, _], _ => rfl) fun d_fixed_piece => ?_
    (case a => k_is); (case l => k_is); (case c => k_is); (case k => k_is)
    refine' CK.with_def KX "measure" (K13.topS 34) ["pieces"] (CK.defF_mk KX G ?a ?l ?c ?k fun _ _ _ _ _ _ us hl => match us, hl with | [_], _ => rfl) fun d_measure => ?_
    (case a => k_is); (case l => k_is); (case c => k_is); (case k => k_is)
    refine' CK.with_def KX "normal_pieces" (K13.topS 35) ["pieces"] (CK.defF_mk KX G ?a ?l ?c ?k fun _ _ _ _ _ _ us hl => match us, hl with | [_], _ => rfl) fun d_normal_pieces => ?_
    (case a => k_is); (case l => k_is); (case c => k_is); (case k => k_is)
    refine' CK.with_def KX "put_fixed" (K13.topS 36) ["ready", "word", "many"] (CK.defF_mk KX G ?a ?l ?c ?k fun _ _ _ _ _ _ us hl => match us, hl with | [_, _, _], _ => rfl) fun d_put_fixed => ?_
    (case a => k_is); (case l => k_is); (case c => k_is); (case k => k_is)
    refine' CK.with_def KX "put_power" (K13.topS 37) ["ready", "word", "form"] (CK.defF_mk KX G ?a ?l ?c ?k fun _ _ _ _ _ _ us hl => match us, hl with | [_, _, _], _ => rfl) fun d_put_power => ?_
    (case a => k_is); (case l => k_is); (case c => k_is); (case k => k_is)
    refine' CK.with_def KX "need_pieces" (K13.topS 39) ["many", "pieces"] (CK.defF_mk KX G ?a ?l ?c ?k fun _ _ _ _ _ _ us hl => match us, hl with | [_, _], _ => rfl) fun d_need_pieces => ?_
    (case a => k_is); (case l => k_is); (case c => k_is); (case k => k_is)
    refine' CK.with_def KX "need_measure" (K13.topS 40) ["total"] (CK.defF_mk KX G ?a ?l ?c ?k fun _ _ _ _ _ _ us hl => match us, hl with | [_], _ => rfl) fun d_need_measure => ?_
    (case a => k_is); (case l => k_is); (case c => k_is); (case k => k_is)
    refine' CK.with_def KX "normal" (K13.topS 41) ["many", "pieces"] (CK.defF_mk KX G ?a ?l ?c ?k fun _ _ _ _ _ _ us hl => match us, hl with | [_, _], _ => rfl) fun d_normal => ?_
    (case a => k_is); (case l => k_is); (case c => k_is); (case k => k_is)
    refine' CK.with_def KX "is_normal" (K13.topS 42) ["many", "value"] (CK.defF_mk KX G ?a ?l ?c ?k fun _ _ _ _ _ _ us hl => match us, hl with | [_, _], _ => rfl) fun d_is_normal => ?_
    (case a => k_is); (case l => k_is); (case c => k_is); (case k => k_is)
    refine' CK.with_met k_OpenText "__init__" "OpenText.__init__" (L2.inClass (K13.topS 44) 0) ["self", "many", "pieces"] (CK.metF_mk k_OpenText _ _ _ _ ?a ?i ?l ?c ?k fun _ _ _ _ _ _ us hl => match us, hl with | [_, _, _], _ => rfl) fun d_OpenText___init__ => ?_
    (case a => k_is); (case i => k_is); (case l => k_is); (case c => k_is); (case k => k_is)
    refine' CK.with_met k_OpenText "__eq__" "OpenText.__eq__" (L2.inClass (K13.topS 44) 1) ["self", "other"] (CK.metF_mk k_OpenText _ _ _ _ ?a ?i ?l ?c ?k fun _ _ _ _ _ _ us hl => match us, hl with | [_, _], _ => rfl) fun d_OpenText___eq__ => ?_
    (case a => k_is); (case i => k_is); (case l => k_is); (case c => k_is); (case k => k_is)
    refine' CK.with_met k_OpenText "many" "OpenText.many" (L2.inClass (K13.topS 44) 2) ["self"] (CK.metF_mk k_OpenText _ _ _ _ ?a ?i ?l ?c ?k fun _ _ _ _ _ _ us hl => match us, hl with | [_], _ => rfl) fun d_OpenText_many => ?_
    (case a => k_is); (case i => k_is); (case l => k_is); (case c => k_is); (case k => k_is)
    refine' CK.with_met k_OpenText "pieces" "OpenText.pieces" (L2.inClass (K13.topS 44) 3) ["self"] (CK.metF_mk k_OpenText _ _ _ _ ?a ?i ?l ?c ?k fun _ _ _ _ _ _ us hl => match us, hl with | [_], _ => rfl) fun d_OpenText_pieces => ?_
    (case a => k_is); (case i => k_is); (case l => k_is); (case c => k_is); (case k => k_is)
    refine' CK.with_def KX "_law_hash" (K13.topS 46) ["_law_seed", "_law_index"] (CK.defF_mk KX G ?a ?l ?c ?k fun _ _ _ _ _ _ us hl => match us, hl with | [_, _], _ => rfl) fun d_law_hash => ?_
    (case a => k_is); (case l => k_is); (case c => k_is); (case k => k_is)
    refine' CK.with_def KX "_law_random" (K13.topS 47) ["_law_generator_here", "_law_bound"] (CK.defF_mk KX G ?a ?l ?c ?k fun _ _ _ _ _ _ us hl => match us, hl with | [_, _], _ => rfl) fun d_law_random => ?_
    (case a => k_is); (case l => k_is); (case c => k_is); (case k => k_is)
    refine' CK.with_def KX "_law_cell" (K13.topS 48) ["_law_script", "_law_index"] (CK.defF_mk KX G ?a ?l ?c ?k fun _ _ _ _ _ _ us hl => match us, hl with | [_, _], _ => rfl) fun d_law_cell => ?_
    (case a => k_is); (case l => k_is); (case c => k_is); (case k => k_is)
    refine' CK.with_def KX "_law_generator" (K13.topS 49) ["_law_script", "_law_index"] (CK.defF_mk KX G ?a ?l ?c ?k fun _ _ _ _ _ _ us hl => match us, hl with | [_, _], _ => rfl) fun d_law_generator => ?_
    (case a => k_is); (case l => k_is); (case c => k_is); (case k => k_is)
    refine' CK.with_def KX "_law_letters" (K13.topS 50) ["_law_generator_here"] (CK.defF_mk KX G ?a ?l ?c ?k fun _ _ _ _ _ _ us hl => match us, hl with | [_], _ => rfl) fun d_law_letters => ?_
    (case a => k_is); (case l => k_is); (case c => k_is); (case k => k_is)
    refine' CK.with_def KX "_law_word" (K13.topS 51) ["_law_generator_here", "_law_signs", "_law_least", "_law_most"] (CK.defF_mk KX G ?a ?l ?c ?k fun _ _ _ _ _ _ us hl => match us, hl with | [_, _, _, _], _ => rfl) fun d_law_word => ?_
    (case a => k_is); (case l => k_is); (case c => k_is); (case k => k_is)
    refine' CK.with_def KX "_law_form" (K13.topS 52) ["_law_generator_here", "_law_many", "_law_most"] (CK.defF_mk KX G ?a ?l ?c ?k fun _ _ _ _ _ _ us hl => match us, hl with | [_, _, _], _ => rfl) fun d_law_form => ?_
    (case a => k_is); (case l => k_is); (case c => k_is); (case k => k_is)
    refine' CK.with_def KX "_law_plain" (K13.topS 53) ["_law_many", "_law_number"] (CK.defF_mk KX G ?a ?l ?c ?k fun _ _ _ _ _ _ us hl => match us, hl with | [_, _], _ => rfl) fun d_law_plain => ?_
    (case a => k_is); (case l => k_is); (case c => k_is); (case k => k_is)
    refine' CK.with_def KX "_law_piece" (K13.topS 54) ["_law_generator_here", "_law_many", "_law_signs", "_law_base", "_law_most"] (CK.defF_mk KX G ?a ?l ?c ?k fun _ _ _ _ _ _ us hl => match us, hl with | [_, _, _, _, _], _ => rfl) fun d_law_piece => ?_
    (case a => k_is); (case l => k_is); (case c => k_is); (case k => k_is)
    refine' CK.with_def KX "_law_raw" (K13.topS 55) ["_law_generator_here", "_law_many", "_law_signs", "_law_count", "_law_most"] (CK.defF_mk KX G ?a ?l ?c ?k fun _ _ _ _ _ _ us hl => match us, hl with | [_, _, _, _, _], _ => rfl) fun d_law_raw => ?_
    (case a => k_is); (case l => k_is); (case c => k_is); (case k => k_is)
    refine' CK.with_def KX "_law_parted" (K13.topS 56) ["_law_generator_here", "_law_many", "_law_pieces", "_law_at"] (CK.defF_mk KX G ?a ?l ?c ?k fun _ _ _ _ _ _ us hl => match us, hl with | [_, _, _, _], _ => rfl) fun d_law_parted => ?_
    (case a => k_is); (case l => k_is); (case c => k_is); (case k => k_is)
    refine' CK.with_def KX "_law_doubled" (K13.topS 57) ["_law_many", "_law_pieces", "_law_at"] (CK.defF_mk KX G ?a ?l ?c ?k fun _ _ _ _ _ _ us hl => match us, hl with | [_, _, _], _ => rfl) fun d_law_doubled => ?_
    (case a => k_is); (case l => k_is); (case c => k_is); (case k => k_is)
    refine' CK.with_def KX "_law_moved" (K13.topS 58) ["_law_many", "_law_pieces", "_law_at"] (CK.defF_mk KX G ?a ?l ?c ?k fun _ _ _ _ _ _ us hl => match us, hl with | [_, _, _], _ => rfl) fun d_law_moved => ?_
    (case a => k_is); (case l => k_is); (case c => k_is); (case k => k_is)
    refine' CK.with_def KX "_law_taken_out" (K13.topS 59) ["_law_many", "_law_pieces", "_law_at"] (CK.defF_mk KX G ?a ?l ?c ?k fun _ _ _ _ _ _ us hl => match us, hl with | [_, _, _], _ => rfl) fun d_law_taken_out => ?_
    (case a => k_is); (case l => k_is); (case c => k_is); (case k => k_is)
    refine' CK.with_def KX "_law_joined" (K13.topS 60) ["_law_many", "_law_pieces", "_law_at"] (CK.defF_mk KX G ?a ?l ?c ?k fun _ _ _ _ _ _ us hl => match us, hl with | [_, _, _], _ => rfl) fun d_law_joined => ?_
    (case a => k_is); (case l => k_is); (case c => k_is); (case k => k_is)
    refine' CK.with_def KX "_law_stepped" (K13.topS 61) ["_law_generator_here", "_law_many", "_law_letters_here", "_law_pieces"] (CK.defF_mk KX G ?a ?l ?c ?k fun _ _ _ _ _ _ us hl => match us, hl with | [_, _, _, _], _ => rfl) fun d_law_stepped => ?_
    (case a => k_is); (case l => k_is); (case c => k_is); (case k => k_is)
    refine' CK.with_def KX "_law_yes" (K13.topS 62) ["_law_told", "_law_due"] (CK.defF_mk KX G ?a ?l ?c ?k fun _ _ _ _ _ _ us hl => match us, hl with | [_, _], _ => rfl) fun d_law_yes => ?_
    (case a => k_is); (case l => k_is); (case c => k_is); (case k => k_is)
    refine' CK.with_def KX "_law_right" (K13.topS 63) ["_law_generator_here"] (CK.defF_mk KX G ?a ?l ?c ?k fun _ _ _ _ _ _ us hl => match us, hl with | [_], _ => rfl) fun d_law_right => ?_
    (case a => k_is); (case l => k_is); (case c => k_is); (case k => k_is)
    refine' CK.with_def KX "law" (K13.topS 64) ["_law_script"] (CK.defF_mk KX G ?a ?l ?c ?k fun _ _ _ _ _ _ us hl => match us, hl with | [_], _ => rfl) fun d_law => ?_
    (case a => k_is); (case l => k_is); (case c => k_is); (case k => k_is)
    have m_all : mg "all" = none := by
      refine' PySem.W.mg_none_of KX G ?z
      (case z => k_is)
    have m_any : mg "any" = none := by
      refine' PySem.W.mg_none_of KX G ?z
      (case z => k_is)
    have m_bool : mg "bool" = none := by
      refine' PySem.W.mg_none_of KX G ?z
      (case z => k_is)
    have m_int : mg "int" = none := by
      refine' PySem.W.mg_none_of KX G ?z
      (case z => k_is)
    have m_isinstance : mg "isinstance" = none := by
      refine' PySem.W.mg_none_of KX G ?z
      (case z => k_is)
    have m_len : mg "len" = none := by
      refine' PySem.W.mg_none_of KX G ?z
      (case z => k_is)
    have m_list : mg "list" = none := by
      refine' PySem.W.mg_none_of KX G ?z
      (case z => k_is)
    have m_max : mg "max" = none := by
      refine' PySem.W.mg_none_of KX G ?z
      (case z => k_is)
    have m_min : mg "min" = none := by
      refine' PySem.W.mg_none_of KX G ?z
      (case z => k_is)
    have m_range : mg "range" = none := by
      refine' PySem.W.mg_none_of KX G ?z
      (case z => k_is)
    have m_str : mg "str" = none := by
      refine' PySem.W.mg_none_of KX G ?z
      (case z => k_is)
    have m_sum : mg "sum" = none := by
      refine' PySem.W.mg_none_of KX G ?z
      (case z => k_is)
    have m_tuple : mg "tuple" = none := by
      refine' PySem.W.mg_none_of KX G ?z
      (case z => k_is)
    have m_zip : mg "zip" = none := by
      refine' PySem.W.mg_none_of KX G ?z
      (case z => k_is)
    have k_MOST_MEASURE : ∃ u, mg "MOST_MEASURE" = some u ∧ L2.RelV (.int 2000) u := by
      refine' ⟨?u_MOST_MEASURE, PySem.W.mg_of KX G ?z_MOST_MEASURE, ?r_MOST_MEASURE⟩
      (case z_MOST_MEASURE => k_is)
      all_goals exact ⟨_, rfl⟩
    have k_MOST_PIECES : ∃ u, mg "MOST_PIECES" = some u ∧ L2.RelV (.int 5000) u := by
      refine' ⟨?u_MOST_PIECES, PySem.W.mg_of KX G ?z_MOST_PIECES, ?r_MOST_PIECES⟩
      (case z_MOST_PIECES => k_is)
      all_goals exact ⟨_, rfl⟩
    have k_MOST_PIECE_LETTERS : ∃ u, mg "MOST_PIECE_LETTERS" = some u ∧ L2.RelV (.int 2000) u := by
      refine' ⟨?u_MOST_PIECE_LETTERS, PySem.W.mg_of KX G ?z_MOST_PIECE_LETTERS, ?r_MOST_PIECE_LETTERS⟩
      (case z_MOST_PIECE_LETTERS => k_is)
      all_goals exact ⟨_, rfl⟩
    have k_MOST_UNKNOWNS : ∃ u, mg "MOST_UNKNOWNS" = some u ∧ L2.RelV (.int 3) u := by
      refine' ⟨?u_MOST_UNKNOWNS, PySem.W.mg_of KX G ?z_MOST_UNKNOWNS, ?r_MOST_UNKNOWNS⟩
      (case z_MOST_UNKNOWNS => k_is)
      all_goals exact ⟨_, rfl⟩
    have T : K13.Txt _ mg _ := ⟨k_OpenText, f_many, f_pieces, d_is_whole, d_is_count, d_is_within, d_is_lettered, d_need_within, d_need_many, d_is_form_for, d_form_sum, d_form_times, d_turned_word, d_stretch, d_alike_ahead, d_alike_behind, d_border_sizes, d_root_size, d_is_piece, d_is_piece_list, d_is_open_form, d_is_power, d_fixed_piece, d_measure, d_normal_pieces, d_put_fixed, d_put_power, d_need_pieces, d_need_measure, d_normal, d_is_normal, d_OpenText___init__, d_OpenText___eq__, d_OpenText_many, d_OpenText_pieces, d_law_hash, d_law_random, d_law_cell, d_law_generator, d_law_letters, d_law_word, d_law_form, d_law_plain, d_law_piece, d_law_raw, d_law_parted, d_law_doubled, d_law_moved, d_law_taken_out, d_law_joined, d_law_stepped, d_law_yes, d_law_right, d_law, m_all, m_any, m_bool, m_int, m_isinstance, m_len, m_list, m_max, m_min, m_range, m_str, m_sum, m_tuple, m_zip, k_MOST_MEASURE, k_MOST_PIECES, k_MOST_PIECE_LETTERS, k_MOST_UNKNOWNS⟩
    exact K13.law_end T hmg
