import PyProof.Rows.All
import Wide.All
import OpenK.AllK
import Wide.FinOn
import HandS.ForMost
import HandS.Wide
import HandS.WideBits
import HandS.TupAny
import HandS.TupMul
import HandS.IsInst
import HandS.Walk
import HandS.Style
import KE.GoesZip
import KE.GoesMore
import KE.GoesEnum
import HandS.Codes
import HandS.FStrTup
import PyProof.ListMulRoad
import PyProof.FactsAll.tuple_2
import PyProof.ReprLoop
import PyProof.ReprHeadsTuple
import PyProof.StrHeap
import PyProof.CallStr
import HandS.StrMore
import HandS.SortInts
import PyProof.Rows.StrRev
import PyProof.StrOps2
import KE.DataAny
import PyProof.ReprRoads
import HandS.Ends
import HandS.Comp
import HandS.SortKw
import KE.SortData
import HandS.More
import KE.SortKeyHeap
import HandS.OwnEq
import HandS.ForDict
import HandS.DictComp
import PySem.Challenge.RW_countscribe_k41_words_that_several_texts
set_option Elab.async false
set_option linter.all false
set_option maxRecDepth 100000
set_option maxHeartbeats 2000000
/-! rules that the layer lacks: a power of great numbers, zip over a list and a tuple in any mix -/
namespace CK
open PySem PySem.Spec PyProof.Rows L2

section
variable {X : Cx}
theorem op_powB : OpR X (binaryOp .Pow) (rI (fun i j => 0 ≤ j ∧ (Builtin.Int.intBits i : Int) * j ≤ 2 ^ 27) fun i j => .int (i ^ j.toNat)) :=
  opI fun _ _ _ _ _ _ _ c q => pow_int c.1 c.2 q
end

/-- a list, or a tuple -/
inductive Kd | L | T
def SqB (K : PySem.W.Frag) : Kd → Hp → Addr → List V → Prop
  | .L, H, a, xs => SqL K H a xs
  | .T, H, a, xs => SqT K H a xs
def HasB : Kd → Heap → Addr → Array Value → Prop
  | .L, h, a, xs => h.IsList a xs
  | .T, h, a, xs => h.IsTuple a xs
def IterB : Kd → Heap → Addr → Addr → Nat → Prop
  | .L, h, it, a, i => h.IsListIter it a i
  | .T, h, it, a, i => h.IsTupleIter it a i
def objB : Kd → Addr → Obj
  | .L, a => { cls := .type "list_iterator", data := .fields #[.ref a, .int 0 0] }
  | .T, a => { cls := .type "tuple_iterator", data := .fields #[.ref a, .int 0 0] }
theorem drawsB (k : Kd) {prog : Program} {w : World} {A : Around} (hh : A.handled = none) (it t : Addr) (ne : t ≠ it) (zs : Array Value) :
    Draws prog w A it [it, t] zs.size (fun i v => zs[i]? = some v) (fun i h => IterB k h it t i ∧ HasB k h t zs) := by
  cases k with
  | L => exact Draws.list hh it t ne zs
  | T => exact Draws.tuple hh it t ne zs
theorem beginsB (k : Kd) (t : Addr) (zs : Array Value) : Begins (.ref t) (objB k t) fun h => HasB k h t zs := by
  cases k with
  | L => exact begins_list t zs
  | T => exact begins_tuple t zs
theorem IterB.at {k : Kd} {h h' : Heap} {it a : Addr} {i : Nat} (x : IterB k h it a i) (e : ∀ o, h.get? it = some o → h'.get? it = some o) : IterB k h' it a i := by
  cases k with
  | L => exact Heap.IsListIter.at x e
  | T => exact Heap.IsTupleIter.at x e
theorem IterB.there {k : Kd} {h : Heap} {it a : Addr} {i : Nat} (x : IterB k h it a i) : ∃ o, h.get? it = some o ∧ ∀ v, o.data ≠ .cell v := by
  cases k with
  | L =>
    obtain ⟨o, e, _, d⟩ := x
    exact ⟨o, e, fun v z => by rw [d] at z; cases z⟩
  | T =>
    obtain ⟨o, e, _, d⟩ := x
    exact ⟨o, e, fun v z => by rw [d] at z; cases z⟩
theorem IterB.new {k : Kd} {h : Heap} {it a : Addr} (e : h.get? it = some (objB k a)) : IterB k h it a 0 := by
  cases k with
  | L => exact ⟨_, e, rfl, rfl⟩
  | T => exact ⟨_, e, rfl, rfl⟩
theorem SqB.get {X : Cx} {pins : List (Addr × Obj)} {σ : L2.St} {H : Hp} {s : Shared} {k : Kd} {a : Addr} {xs : List V} (I : Inv X pins σ H s) (h : SqB X.K k H a xs) :
    ∃ zs : List Value, Vals xs zs ∧ HasB k s.heap a zs.toArray ∧ a < s.heap.objs.size := by
  cases k with
  | L =>
    obtain ⟨zs, r, p, _⟩ := I.list h
    exact ⟨zs, r, p.isList, p.lt⟩
  | T =>
    obtain ⟨zs, r, p, _⟩ := I.tuple h
    exact ⟨zs, r, p, p.lt⟩
theorem SqB.inj {X : Cx} {pins : List (Addr × Obj)} {σ : L2.St} {H : Hp} {s : Shared} {k : Kd} {a : Addr} {xs ys : List V} (I : Inv X pins σ H s) (h : SqB X.K k H a xs) (h' : SqB X.K k H a ys) : xs = ys := by
  cases k with
  | L => exact I.list_inj h h'
  | T => exact I.tuple_inj h h'

/-- both as they stand at each turn, the items in new pairs -/
def ItB (K : PySem.W.Frag) (k k' : Kd) (a b : Addr) : It :=
  ⟨fun i H => ∃ (xs ys : List V) (x y : V), SqB K k H a xs ∧ SqB K k' H b ys ∧ xs[i]? = some x ∧ ys[i]? = some y,
    fun i H v H' => ∃ T x y, v = .ref T ∧ H T = none ∧ H' = upd H T (.tup [x, y]) ∧ (∀ xs, SqB K k H a xs → xs[i]? = some x) ∧ ∀ ys, SqB K k' H b ys → ys[i]? = some y,
    fun i H => ∃ xs ys : List V, SqB K k H a xs ∧ SqB K k' H b ys ∧ i ≤ xs.length ∧ i ≤ ys.length ∧ (i = xs.length ∨ i = ys.length)⟩
theorem five {z TI TO i1 i2 c : Addr} (h : c ∈ [z, TI, TO, i1, i2]) : c = z ∨ c = TI ∨ c = TO ∨ c = i1 ∨ c = i2 := by simpa using h
theorem turnB {P : Program} {w : World} {K : PySem.W.Frag} {elts : List Expr} {kk : Nat} {tp : Pos} {k k' : Kd} {a b z TI TO i1 i2 : Addr} (S : ZipSep2 z TI TO i1 i2 [i1, a] [i2, b]) (na : a ≠ i1) (nb : b ≠ i2) :
    Turn P w K (.Tuple elts kk tp) (ItB K k k' a b) [z, TI, TO, i1, i2] z
      (fun i h => IsZip h z TI TO .none ∧ IsTupOf2 h TI (.ref i1) (.ref i2) ∧ (∃ x y, IsTupOf2 h TO x y) ∧ IterB k h i1 a i ∧ IterB k' h i2 b i) where
  mem := by simp
  obj := fun i h st c hc => by
    obtain ⟨hz, hI, ⟨x, y, hO⟩, h1, h2⟩ := st
    rcases five hc with q | q | q | q | q <;> subst q
    · exact ⟨_, hz, fun v q => nomatch q⟩
    · exact ⟨_, hI, fun v q => nomatch q⟩
    · exact ⟨_, hO, fun v q => nomatch q⟩
    · exact h1.there
    · exact h2.there
  keep := fun i h h' st q => by
    obtain ⟨hz, hI, ⟨x, y, hO⟩, h1, h2⟩ := st
    exact ⟨q z (by simp) _ hz, q TI (by simp) _ hI, ⟨x, y, q TO (by simp) _ hO⟩, h1.at (q i1 (by simp)), h2.at (q i2 (by simp))⟩
  item := by
    intro X hP hw hK hc i pins s σ H E I hf st hg
    subst hP hw hK
    obtain ⟨hz, hI, ⟨x0, y0, hO⟩, h1, h2⟩ := st
    obtain ⟨xs, ys, x, y, qx, qy, hx, hy⟩ := hg
    obtain ⟨zs, r1, p1, la⟩ := SqB.get I qx
    obtain ⟨zs', r2, p2, lb⟩ := SqB.get I qy
    obtain ⟨u, hu, ru⟩ := r1.get hx
    obtain ⟨u2, hu2, ru2⟩ := r2.get hy
    have z0 : z < s.heap.objs.size := Heap.lt_size hz
    have l1 : i < zs.toArray.size := by
      obtain ⟨q, _⟩ := List.getElem?_eq_some_iff.mp hu
      simpa using q
    have l2 : i < zs'.toArray.size := by
      obtain ⟨q, _⟩ := List.getElem?_eq_some_iff.mp hu2
      simpa using q
    have hh : X.A.in1.handled = none := I.ok.hd hc
    refine wpAny_pyNext_zipD2_item S (drawsB k hh i1 a na zs.toArray) (drawsB k' hh i2 b nb zs'.toArray) hz hI hO ⟨h1, p1⟩ ⟨h2, p2⟩ l1 l2 fun x1 x2 h' tk e1 e2 z' TO' t1 t2 hT hsz hk => ?_
    have e1' : x1 = u := by
      have q : zs[i]? = some x1 := by simpa using e1
      exact Option.some.inj (q.symm.trans hu)
    have e2' : x2 = u2 := by
      have q : zs'[i]? = some x2 := by simpa using e2
      exact Option.some.inj (q.symm.trans hu2)
    subst e1' e2'
    refine ⟨_, rfl, wpAny_letOwnedTupleGo_zip (s := { s with heap := h', toks := tk }) z' fun h'' z'' sb => ?_⟩
    have hT2 : h''.get? s.heap.objs.size = some { cls := .type "tuple", data := .seq #[x1, x2] } := (sb.2 _ (Nat.ne_of_gt z0)).trans hT
    have new : ObjOk X.prog X.w (upd H s.heap.objs.size (.tup [x, y])) h'' s.heap.objs.size (.tup [x, y]) :=
      ⟨by show 2 ≤ sizeLine; decide, [x1, x2], .cons ru (.cons ru2 .nil), ⟨_, hT2, rfl, _, rfl⟩⟩
    have I1 : Inv X pins σ (upd H s.heap.objs.size (.tup [x, y])) { s with heap := h'', toks := tk } :=
      I.turnedNew (ch := [z, TI, TO, i1, i2]) (fun c o hb q => by
        have n : c ≠ z ∧ c ≠ TI ∧ c ≠ TO ∧ c ≠ i1 ∧ c ≠ i2 := by simpa using hb
        exact (sb.2 c n.1).trans (hk c o n.1 n.2.2.1 n.2.2.2.1 n.2.2.2.2 q)) hf (Nat.le_refl _) new
    refine ⟨.ref s.heap.objs.size, _, I1, rfl, ⟨_, x, y, rfl, I.hok.fresh (Nat.le_refl _), rfl, fun l hl => by rw [SqB.inj I hl qx]; exact hx, fun l hl => by rw [SqB.inj I hl qy]; exact hy⟩, ⟨z'', ?_, ⟨x1, x2, ?_⟩, ?_, ?_⟩, fun c hcm => ?_⟩
    · exact (sb.2 _ S.TIz).trans (hk _ _ S.TIz S.TITO S.TIi1 S.TIi2 hI)
    · exact (sb.2 _ S.TOz).trans TO'
    · exact t1.1.at fun o q => (sb.2 _ S.zi1.symm).trans q
    · exact t2.1.at fun o q => (sb.2 _ S.zi2.symm).trans q
    · have lt : c < s.heap.objs.size := by
        rcases five hcm with q | q | q | q | q <;> subst q
        · exact z0
        · exact Heap.lt_size hI
        · exact Heap.lt_size hO
        · obtain ⟨_, e, _⟩ := h1.there
          exact Heap.lt_size e
        · obtain ⟨_, e, _⟩ := h2.there
          exact Heap.lt_size e
      rw [upd_ne (Nat.ne_of_lt lt)]
      exact (hf c hcm).1
  done := by
    intro X hP hw hK hc i pins s σ H E I hf st hg
    subst hP hw hK
    obtain ⟨hz, hI, ⟨x0, y0, hO⟩, h1, h2⟩ := st
    obtain ⟨xs, ys, qx, qy, m1, m2, hend⟩ := hg
    obtain ⟨zs, r1, p1, la⟩ := SqB.get I qx
    obtain ⟨zs', r2, p2, lb⟩ := SqB.get I qy
    have e1 : zs.toArray.size = xs.length := by rw [List.size_toArray]; exact r1.length.symm
    have e2 : zs'.toArray.size = ys.length := by rw [List.size_toArray]; exact r2.length.symm
    have hh : X.A.in1.handled = none := I.ok.hd hc
    exact wpAny_pyNext_zipD2_end S (drawsB k hh i1 a na zs.toArray) (drawsB k' hh i2 b nb zs'.toArray) hz hI hO ⟨h1, p1⟩ ⟨h2, p2⟩ (by omega) (by omega) (by omega) fun h' tk hk =>
      ⟨rfl, I.turnedL (ch := [z, TI, TO, i1, i2]) (fun c o hb q => by
        have n : c ≠ z ∧ c ≠ TI ∧ c ≠ TO ∧ c ≠ i1 ∧ c ≠ i2 := by simpa using hb
        exact hk c o n.1 n.2.2.1 n.2.2.2.1 n.2.2.2.2 q) hf⟩
  self := fun A i s Q E st h => wpAny_pyIter_zip st.1 h

def iZipB (K : PySem.W.Frag) (ta : TA) : TI := fun σ H R => ta σ H fun vs H1 => ∃ (k k' : Kd) (a b : Addr) (xs ys : List V), vs = [.ref a, .ref b] ∧ SqB K k H1 a xs ∧ SqB K k' H1 b ys ∧ R (ItB K k k' a b) H1
theorem pi_zipB {X : Cx} {K : PySem.W.Frag} {e e2 : Expr} {ta : TA} {p pos tp : Pos} {elts : List Expr} {kk : Nat} (hK : X.K = K) (hg : Gl X "zip") (hm : X.mg "zip" = none) (ha : PA X [e, e2] ta)
    (hs : starEach [e, e2] X.env = (false, eval e X.env) :: starEach [e2] X.env := by rfl) (hpl : (backTo pos (starEach [e2] X.env)).any (·.1) = false := by rfl) :
    PI X (.Tuple elts kk tp) (.Call (.Name "zip" p) [e, e2] [] pos) (iZipB K ta) := by
  subst hK
  refine ⟨fun pins s σ H R I h => Call_ (ld_blt I hg hm PyProof.Rows.boot_zip (callWith_type1 (thn (ha.run pos pins s σ H _ I h) fun us s1 q => ?_) hs hpl))⟩
  obtain ⟨vs, H1, I1, r1, k, k', a, b, xs, ys, rfl, qx, qy, q⟩ := q
  cases r1 with
  | cons r rr =>
  cases rr with
  | cons r' rr =>
  cases rr
  cases r
  cases r'
  obtain ⟨zs, _, p1, la⟩ := SqB.get I1 qx
  obtain ⟨zs', _, p2, lb⟩ := SqB.get I1 qy
  refine zip_begins2 (beginsB k a zs.toArray) (beginsB k' b zs'.toArray) p1 p2 fun h' hz hI hO o1 o2 hsz hk => wpAny_pyIter_zip hz ?_
  have S := zip_sep2 (N := s1.heap.objs.size) (fp1 := [a]) (fp2 := [b]) (fun c hc => by rw [List.mem_singleton.mp hc]; exact la) (fun c hc => by rw [List.mem_singleton.mp hc]; exact lb)
  refine ⟨s1.heap.objs.size + 4, _, _, _, H1, rfl, I1.kept (t' := s1.toks) hk, turnB S (Nat.ne_of_lt la) (Nat.ne_of_lt (Nat.lt_succ_of_lt lb)), ⟨hz, hI, ⟨_, _, hO⟩, .new o1, .new o2⟩, fun c hc => ?_, q⟩
  have le : s1.heap.objs.size ≤ c := by
    rcases five hc with z | z | z | z | z <;> subst z <;> first | exact Nat.le_add_right _ _ | exact Nat.le_refl _
  exact I1.fpOk le (I1.hok.fresh le)
theorem walkB {K : PySem.W.Frag} {k k' : Kd} {a b : Addr} {xs ys : List V} (hl : xs.length = ys.length) :
    Walk (ItB K k k' a b) xs.length (fun H => SqB K k H a xs ∧ SqB K k' H b ys) (YPair (fun i => xs[i]?) (fun i => ys[i]?)) := by
  refine ⟨fun i H hi q => ?_, fun H q => ⟨xs, ys, q.1, q.2, Nat.le_refl _, Nat.le_of_eq hl, .inl rfl⟩, fun i H v H' _ q y => ?_⟩
  · have h2 : i < ys.length := by omega
    exact ⟨xs, ys, xs[i], ys[i], q.1, q.2, by simp [hi], by simp [h2]⟩
  · obtain ⟨T, x, z, h1, h2, h3, h4, h5⟩ := y
    exact ⟨T, x, z, h1, h2, h3, h4 xs q.1, h5 ys q.2⟩
end CK

set_option Elab.async false
set_option linter.all false
set_option maxRecDepth 100000
set_option maxHeartbeats 4000000
namespace CK
open PySem PySem.Spec PyProof.Rows L2
theorem mulFill : fillsNumberSlot (.type "tuple") "mul" = pure false :=
  PySem.fillsNumberSlot_seq (r := some (.builtin "tuple.__rmul__")) (id := "tuple.__mul__") PySem.F.slot_tuple_mul.lookup (by decide +kernel)
    PySem.F.slot_tuple_rmul.lookup (by decide +kernel)
theorem mulSeq : seqRepeat? (.type "tuple") = pure (some (.builtin "tuple.__mul__")) := by
  unfold seqRepeat?
  rw [PySem.seqSlot_of (name := "__mul__") (id := "tuple.__mul__") (T := "tuple") PySem.F.slot_tuple_mul.lookup (by decide +kernel),
    PySem.seqSlot_of (name := "__rmul__") (id := "tuple.__rmul__") (T := "tuple") PySem.F.slot_tuple_rmul.lookup (by decide +kernel)]
  rfl
theorem rmulNo (a : Int) (t : Tok) (l : Addr) (zs : Array Value) (n : Nat) (dd : Option Addr) (sl : Array (Option Value)) :
    Meets (Builtin.«int.__rmul__» ⟨[.int a t, .ref l], []⟩) (fun _ R s =>
      s.heap.get? l = some { cls := .type "tuple", dict := dd, data := .seq zs n, slots := sl } ∧ R (.ok (.ret Value.notImplemented)) s) := by
  refine Meets.of_wp fun prog w A R s h => ?_
  obtain ⟨hq, g, d, tk, o2⟩ := s
  obtain ⟨hl, h⟩ := h
  wp_walk using wpAny_loadPart' hl
  exact ⟨_, rfl, h⟩
/-- one item, no times: a new empty tuple -/
theorem mul0 (l : Addr) (v : Value) (n : Nat) (dd : Option Addr) (sl : Array (Option Value)) (u : Tok) :
    Meets (Builtin.«tuple.__mul__» ⟨[.ref l, .int 0 u], []⟩) (fun _ R s =>
      s.heap.get? l = some { cls := .type "tuple", dict := dd, data := .seq #[v] n, slots := sl } ∧
      R (.ok (.ret (Value.ref s.heap.objs.size))) { s with heap := s.heap.push { cls := Value.type "tuple", data := Data.seq #[] } }) := by
  refine Meets.of_wp fun prog w A R s h => ?_
  obtain ⟨hq, g, d, tk, o2⟩ := s
  obtain ⟨hl, h⟩ := h
  have f1 := AutoSeq1.idx_int
  wp_walk using wpAny_loadPart' hl
  exact ⟨_, rfl, h⟩
/-- one item, once: the tuple itself -/
theorem mul1 (l : Addr) (v : Value) (n : Nat) (dd : Option Addr) (sl : Array (Option Value)) (u : Tok) :
    Meets (Builtin.«tuple.__mul__» ⟨[.ref l, .int 1 u], []⟩) (fun _ R s =>
      s.heap.get? l = some { cls := .type "tuple", dict := dd, data := .seq #[v] n, slots := sl } ∧ R (.ok (.ret (Value.ref l))) s) := by
  refine Meets.of_wp fun prog w A R s h => ?_
  obtain ⟨hq, g, d, tk, o2⟩ := s
  obtain ⟨hl, h⟩ := h
  have f1 := AutoSeq1.idx_int
  have f2 : (⟨hq, g, d, tk, o2⟩ : Shared).TypeIs (.ref l) "tuple" := ⟨_, hl, rfl⟩
  wp_walk using wpAny_loadPart' hl, wpAny_typeOf f2
  exact ⟨_, rfl, h⟩
section
variable {X : Cx}
theorem sameNew {H : Hp} {p : Addr} {o : HO} (h : H p = none) : Same H (upd H p o) := fun b z e => by
  rw [upd_ne (ne_of_none e h)]
  exact e
/-- one item, k times: 0 or 1 -/
def rRep01 : R2 := fun x y H Q => ∃ (l : Addr) (k : Int) (v : V), x = .ref l ∧ y = .int k ∧ H l = some (.tup [v]) ∧ (k = 0 ∨ k = 1) ∧
  ∀ p H', Same H H' → H' p = some (.tup (List.replicate k.toNat v)) → Q (.ref p) H'
theorem op_rep01 : OpR X (binaryOp .Mult) rRep01 := by
  intro pins s σ H x y xv yv Q I rx ry h
  obtain ⟨l, k, v, rfl, rfl, hl, hk, q⟩ := h
  cases rx
  obtain ⟨t, rfl⟩ := ry
  obtain ⟨zs, r, ⟨⟨cl, dd, da, sl⟩, ho, hc, n, hd⟩, hs⟩ := I.tuple (.inl (.inl hl) : SqT X.K H l [v])
  simp only at hc hd
  subst hc hd
  cases r with
  | cons r1 r2 =>
  cases r2
  rename_i u
  rcases hk with e | e <;> subst e
  · refine wpAny_binaryOp_repeat_ref (T := "tuple") (U := "int") (by decide) ⟨_, ho, rfl⟩ (fun s' => typeIs_int s' 0 t) mulFill F.fills_int_mul F.slot_int_rmul mulSeq F.slot_int_index.lookup
      (call_meets F.slot_int_rmul (typeIs_int s 0 t) F.entry_int_rmul (F.args_int_rmul_2 _ _) (rmulNo 0 t l _ n dd sl)
        ⟨ho, rfl, ⟨_, ho, rfl⟩, call_meets F.slot_tuple_mul ⟨_, ho, rfl⟩ F.entry_tuple_mul (F.args_tuple_mul_2 _ _) (mul0 l _ n dd sl t) ⟨ho, ?_⟩⟩)
    have hn : H s.heap.objs.size = none := I.hok.fresh (Nat.le_refl _)
    refine ⟨.ref s.heap.objs.size, _, I.laid (t' := s.toks) (o := .tup []) (fun b ob q => Heap.get?_push_of_some _ q) (Nat.le_refl _) ?_, rfl, q _ _ (sameNew hn) upd_same⟩
    exact ⟨Nat.zero_le _, [], .nil, IsTup.new _ _⟩
  · exact wpAny_binaryOp_repeat_ref (T := "tuple") (U := "int") (by decide) ⟨_, ho, rfl⟩ (fun s' => typeIs_int s' 1 t) mulFill F.fills_int_mul F.slot_int_rmul mulSeq F.slot_int_index.lookup
      (call_meets F.slot_int_rmul (typeIs_int s 1 t) F.entry_int_rmul (F.args_int_rmul_2 _ _) (rmulNo 1 t l _ n dd sl)
        ⟨ho, rfl, ⟨_, ho, rfl⟩, call_meets F.slot_tuple_mul ⟨_, ho, rfl⟩ F.entry_tuple_mul (F.args_tuple_mul_2 _ _) (mul1 l _ n dd sl t)
          ⟨ho, ⟨.ref l, H, I, rfl, q l H (Same.refl H) hl⟩⟩⟩)
/-! ### str(tuple of whole numbers): some text -/
theorem reprInts {prog : Program} {w : World} : ∀ {ns : List Int} {zs : List Value}, Vals (ns.map V.int) zs → (∀ n ∈ ns, n.natAbs.log2 < 1920) → ReprAll prog w zs (ns.map fun n => (toString n : Str))
  | [], _, r, _ => by
    cases r
    exact .nil
  | n :: l, _, r, h => by
    cases r with
    | cons r1 r2 =>
    obtain ⟨t, rfl⟩ := r1
    exact .cons (ReprIs.int t (h n List.mem_cons_self)) (reprInts r2 fun z hz => h z (List.mem_cons_of_mem _ hz))
end
end CK
namespace CK
open PySem PySem.Spec PyProof.Rows L2
section
variable {X : Cx}
/-- one item, k times -/
def rRepOne (K : PySem.W.Frag) : R2 := fun x y H Q => ∃ (l : Addr) (k : Int) (v : V), x = .ref l ∧ y = .int k ∧ H l = some (.tup [v]) ∧ 0 ≤ k ∧ k ≤ 1000 ∧
  ∀ p H', Same H H' → H' p = some (.tup (List.replicate k.toNat v)) → Q (.ref p) H'
theorem flat_rep {α : Type} (v : α) : ∀ n : Nat, (List.replicate n [v]).flatten = List.replicate n v
  | 0 => rfl
  | n + 1 => by rw [List.replicate_succ, List.flatten_cons, flat_rep v n, List.replicate_succ]; rfl
theorem op_repOne : OpR X (binaryOp .Mult) (rRepOne X.K) := by
  intro pins s σ H x y xv yv Q I rx ry h
  obtain ⟨l, k, v, rfl, rfl, hl, h0, h1, q⟩ := h
  by_cases hk : k = 0 ∨ k = 1
  · exact op_rep01 pins s σ H _ _ xv yv Q I rx ry ⟨l, k, v, rfl, rfl, hl, hk, q⟩
  · refine op_repT pins s σ H _ _ xv yv Q I rx ry ⟨l, k, [v], rfl, rfl, .inl (.inl hl), List.cons_ne_nil _ _, by omega, h1, by show 1 ≤ 1000; omega, fun p hp => q p _ (sameNew hp) ?_⟩
    rw [upd_same, flat_rep]
/-- str of a tuple of whole numbers: some text -/
theorem call_str_tup {k : Nat} (hr : Room k X.A) : CallR X (.type "str") (fun xs H Q => ∃ (a : Addr) (ns : List Int), xs = [.ref a] ∧ H a = some (.tup (ns.map V.int)) ∧ ns.length ≤ 100 ∧ (∀ n ∈ ns, n.natAbs.log2 < 1920) ∧ ∀ m : Str, Q (.str m) H) := by
  intro pins s σ H xs us Q I r h
  obtain ⟨a, ns, rfl, ha, hl, hn, q⟩ := h
  obtain ⟨u, rfl, rx⟩ := vals1 r
  cases rx
  obtain ⟨zs, rv, ⟨o, ho, hc, n, hd⟩, hz⟩ := I.tuple (.inl (.inl ha) : SqT X.K H a _)
  have hu := hr.units
  have hT : ReprAll X.prog X.w zs.toArray.toList (ns.map fun n => (toString n : Str)) := by simpa using reprInts rv hn
  have hp : ∀ l : List Int, (∀ n ∈ l, n.natAbs.log2 < 1920) → piled (l.map fun n => (toString n : Str)) ≤ l.length * 1923 := by
    intro l
    induction l with
    | nil => intro _; exact Nat.le_refl _
    | cons z l ih =>
      intro h
      have a1 := int_text_length_le (a := z) (k := 1920) (by omega) (h z List.mem_cons_self)
      have a2 := ih fun n hn => h n (List.mem_cons_of_mem _ hn)
      rw [List.map_cons, piled_cons, List.length_cons]
      have a3 : ((toString z : Str)).length = (toString z).length := PySem.ofString_length _
      omega
  have h1 := fmt_text (ns.map fun n => (toString n : Str))
  have h2 := hp ns hn
  have h3 : ns.length * 1923 ≤ 192300 := by omega
  have h4 : (tupleText (ns.map fun n => (toString n : Str))).length ≤ sizeLine := by
    rw [sizeLine_eq]
    omega
  refine callType_new F.called_str (by decide) (F.typeCall_str_1 _) (F.newCall_str_1 _) (fun obj => F.args_object_init_2 obj _) F.entry_str_new
    (meets_str_new (S := fun A' R s' => A'.units + 4 < cLine ∧ s'.heap.get? a = some o ∧ ∀ (m : Str) (u tk : Tok), R (.ok (.ret (.str m u))) { s' with toks := tk }) fun prog w A' R s' h =>
      wpAny_strOf_slot rfl (by show A'.units + 1 + 1 < cLine; have := h.1; omega) ⟨o, h.2.1, hc⟩ F.slot_tuple_str F.slot_tuple_repr
        (fmt_tuple_repr h.2.1 hc hd ?_ h4 fun m u tk _ => ⟨m, u, rfl, h.2.2 m u tk⟩))
    ⟨by show X.A.units + 1 + 4 < cLine; omega, ho, fun m u tk => ⟨typeIs_str _ _ _, .str m, H, I.tok _, ⟨u, rfl⟩, q m⟩⟩
  exact by simpa using reprInts rv hn
end
end CK

set_option Elab.async false
set_option linter.all false
set_option maxRecDepth 100000
set_option maxHeartbeats 2000000
namespace CK
open PySem PySem.Spec PyProof.Rows L2
/-! ### a def as it stands behind the top, and its promise by its body -/
structure DefF (K : PySem.W.Frag) (mg : Str → Option Value) (x : Str) (st : Stmt) (ps : List Str) : Prop where
  ex : ∃ (f : Addr) (fd : FuncData), C8.Def K mg x st f fd ∧ ∀ us : List Value, us.length = ps.length → bindArgs fd ⟨us, []⟩ = pure (ps.zip us)
theorem defF_mk {K : PySem.W.Frag} {h : Heap} {mg : Str → Option Value} {x : Str} {st : Stmt} {ps : List Str} {f : Addr} {od an : Option Addr} {oc kV dc pm cd ct : Value} {sl : Array (Option Value)}
    (X : K.In h) (G : h.Ns mainGlobals mg) (a : PySem.W.nsIn K mainGlobals x = some (some (.ref f)))
    (l : K.lookup f = some ⟨oc, od, .func (PySem.W.fnOf x x (C8.fnArgs st) (C8.fnBody st) (C8.fnScope st) .none kV dc pm an cd ct), sl⟩)
    (c : PySem.W.codeIn K cd x = true) (k : PySem.W.keepIn K (.ref f) = true)
    (hb : ∀ (kV doc pm : Value) (an : Option Addr) (cdv ct : Value) (us : List Value), us.length = ps.length →
      bindArgs (PySem.W.fnOf x x (C8.fnArgs st) (C8.fnBody st) (C8.fnScope st) .none kV doc pm an cdv ct) ⟨us, []⟩ = pure (ps.zip us)) : DefF K mg x st ps :=
  ⟨f, _, ⟨⟨oc, od, .none, kV, dc, pm, an, cd, ct, sl, rfl, l, c⟩, PySem.W.mg_of X G a, k⟩, hb kV dc pm an cd ct⟩
theorem calF {P : Program} {w : World} {K : PySem.W.Frag} {mg : Str → Option Value} {base : Heap} {x : Str} {st : Stmt} {N ps : List Str} {k : Nat} {sp : Sp} (D : DefF K mg x st ps) (S : FnScope N ps (C8.fnScope st))
    (len : ∀ vs H Q E, sp vs H Q E → vs.length = ps.length)
    (hbody : ∀ (f : Addr) (cdv : Value) (A : Around) (outer : List Env) (s : Shared) (H : Hp) (vs : List V) (Q : VK) (E : XK), Room k (A.deeper (envOfC x (C8.fnScope st) s.heap.objs.size f cdv)) → sp vs H Q E →
      ∃ t, PSs (cxOf C8.CX0 P w K mg base N x (C8.fnScope st) f cdv A outer s H E).nox (C8.fnBody st) t ∧ t { nx := fun _ H' => Q .non H', rt := Q } (start N vs) H) : C8.Cal P w K mg base (k + 1) x sp [] := by
  obtain ⟨f, fd, F, b⟩ := D.ex
  exact C8.cal0 F (.all b) .nil S len (hbody f)
/-- a def of one parameter as it stands, for the law's end -/
theorem DefF.one {K : PySem.W.Frag} {mg : Str → Option Value} {x p : Str} {st : Stmt} (D : DefF K mg x st [p]) : ∃ (f : Addr) (fd : FuncData), mg x = some (.ref f) ∧ (∀ (s : Shared) (v : Value), BindsTo s fd ⟨[v], []⟩ [(p, v)]) ∧
    ∀ {P : Program} {w : World} {base : Heap} {N : List Str} {k : Nat} {sp : Sp} (S : FnScope N [p] (C8.fnScope st)) (len : ∀ vs H Q E, sp vs H Q E → vs.length = 1)
      (hbody : ∀ (f : Addr) (cdv : Value) (A : Around) (outer : List Env) (s : Shared) (H : Hp) (vs : List V) (Q : VK) (E : XK), Room k (A.deeper (envOfC x (C8.fnScope st) s.heap.objs.size f cdv)) → sp vs H Q E →
        ∃ t, PSs (cxOf C8.CX0 P w K mg base N x (C8.fnScope st) f cdv A outer s H E).nox (C8.fnBody st) t ∧ t { nx := fun _ H' => Q .non H', rt := Q } (start N vs) H), FnOk P w K mg base C8.CX0 (k + 1) f fd [p] sp := by
  obtain ⟨f, fd, F, b⟩ := D.ex
  exact ⟨f, fd, F.mgf, fun s v => .of_eq (b [v] rfl), fun S len hbody => C8.fn0 F.fn S len (hbody f)⟩

theorem with_def {K : PySem.W.Frag} {h : Heap} {mg : Str → Option Value} (_ : K.In h) (x : Str) (st : Stmt) (ps : List Str) {R : Prop} (d : DefF K mg x st ps) (r : DefF K mg x st ps → R) : R := r d
/-! ### heaps -/
/-- all that was tracked is as it was, but for g -/
def SameX (g : Addr) (H H' : Hp) : Prop := ∀ b o, b ≠ g → H b = some o → H' b = some o
theorem SameX.refl (g : Addr) (H : Hp) : SameX g H H := fun _ _ _ h => h
theorem SameX.trans {g : Addr} {H H1 H2 : Hp} (a : SameX g H H1) (b : SameX g H1 H2) : SameX g H H2 := fun c o n h => b c o n (a c o n h)
theorem SameX.of {g : Addr} {H H1 : Hp} (a : Same H H1) : SameX g H H1 := fun c o _ h => a c o h
theorem sameX_upd {g : Addr} {H : Hp} {o : HO} : SameX g H (upd H g o) := fun b z n e => by
  rw [upd_ne n]
  exact e
theorem same_upd2 {H H1 : Hp} {D : Addr} {o : HO} (hD : H D = none) (s : Same H H1) : Same H (upd H1 D o) := fun b z e => by
  rw [upd_ne (ne_of_none e hD)]
  exact s b z e

/-! ### what a value is -/
/-- the built-in type of a value that is known -/
def tnm (H : Hp) : V → String
  | .non => "NoneType"
  | .bl _ => "bool"
  | .int _ => "int"
  | .str _ => "str"
  | .ref a => match H a with
    | some (.lst _) => "list"
    | some (.tup _) => "tuple"
    | _ => "?"
  | _ => "?"
theorem tnm_tup {H : Hp} {a : Addr} {xs : List V} (h : H a = some (.tup xs)) : tnm H (.ref a) = "tuple" := by
  simp only [tnm, h]
theorem tnm_lst {H : Hp} {a : Addr} {xs : List V} (h : H a = some (.lst xs)) : tnm H (.ref a) = "list" := by
  simp only [tnm, h]
/-- a value whose type is known -/
inductive Kn (H : Hp) : V → Prop
  | non : Kn H .non
  | bl (b : Bool) : Kn H (.bl b)
  | int (i : Int) : Kn H (.int i)
  | str (x : Str) : Kn H (.str x)
  | lst {a : Addr} {xs : List V} (e : H a = some (.lst xs)) : Kn H (.ref a)
  | tup {a : Addr} {xs : List V} (e : H a = some (.tup xs)) : Kn H (.ref a)
theorem Kn.same {H H' : Hp} {v : V} (k : Kn H v) (s : Same H H') : Kn H' v := by
  cases k with
  | non => exact .non
  | bl b => exact .bl b
  | int i => exact .int i
  | str x => exact .str x
  | lst e => exact .lst (s _ _ e)
  | tup e => exact .tup (s _ _ e)
theorem Kn.ty {K : PySem.W.Frag} {H : Hp} {v : V} (k : Kn H v) : TyX K H v (.type (tnm H v)) := by
  cases k with
  | non => exact .base .non
  | bl b => exact .base (.bl b)
  | int i => exact .base (.int i)
  | str x => exact .base (.str x)
  | lst e => rw [tnm_lst e]; exact .base (.lst e)
  | tup e => rw [tnm_tup e]; exact .base (.tup e)
section
variable {X : Cx}
/-- isinstance(v, T), a known value, a built-in type -/
theorem call_isK : CallR X (.builtin "isinstance") (fun xs H Q => ∃ (v : V) (T : String) (b : Bool), xs = [v, .ty T] ∧ Kn H v ∧ kitB (tnm H v) T = some b ∧ Q (.bl b) H) := by
  intro pins s σ H xs us Q I r h
  obtain ⟨v, T, b, rfl, k, e, q⟩ := h
  exact call_isi pins s σ H _ us Q I r ⟨v, .ty T, _, _, b, rfl, .ty T, k.ty, kit_ty e, q⟩
end
/-- a whole number, no Boolean -/
def isW : V → Bool
  | .int _ => true
  | _ => false
/-- a count -/
def isC : V → Bool
  | .int i => decide (0 ≤ i)
  | _ => false
/-- isinstance(v, int) -/
def isI : V → Bool
  | .int _ => true
  | .bl _ => true
  | _ => false
def isBo : V → Bool
  | .bl _ => true
  | _ => false
def isTu (H : Hp) : V → Bool
  | .ref a => match H a with
    | some (.tup _) => true
    | _ => false
  | _ => false
def isLi (H : Hp) : V → Bool
  | .ref a => match H a with
    | some (.lst _) => true
    | _ => false
  | _ => false
theorem kit_int {H : Hp} {v : V} (k : Kn H v) : kitB (tnm H v) "int" = some (isI v) := by
  cases k with
  | non => show kitB "NoneType" "int" = some false; decide +kernel
  | bl b => show kitB "bool" "int" = some true; decide +kernel
  | int i => show kitB "int" "int" = some true; decide +kernel
  | str x => show kitB "str" "int" = some false; decide +kernel
  | lst e => rw [tnm_lst e]; show kitB "list" "int" = some false; decide +kernel
  | tup e => rw [tnm_tup e]; show kitB "tuple" "int" = some false; decide +kernel
theorem kit_bool {H : Hp} {v : V} (k : Kn H v) : kitB (tnm H v) "bool" = some (isBo v) := by
  cases k with
  | non => show kitB "NoneType" "bool" = some false; decide +kernel
  | bl b => show kitB "bool" "bool" = some true; decide +kernel
  | int i => show kitB "int" "bool" = some false; decide +kernel
  | str x => show kitB "str" "bool" = some false; decide +kernel
  | lst e => rw [tnm_lst e]; show kitB "list" "bool" = some false; decide +kernel
  | tup e => rw [tnm_tup e]; show kitB "tuple" "bool" = some false; decide +kernel
theorem kit_tuple {H : Hp} {v : V} (k : Kn H v) : kitB (tnm H v) "tuple" = some (isTu H v) := by
  cases k with
  | non => show kitB "NoneType" "tuple" = some false; decide +kernel
  | bl b => show kitB "bool" "tuple" = some false; decide +kernel
  | int i => show kitB "int" "tuple" = some false; decide +kernel
  | str x => show kitB "str" "tuple" = some false; decide +kernel
  | lst e => rw [tnm_lst e, show isTu H (.ref _) = false by simp only [isTu, e]]; decide +kernel
  | tup e => rw [tnm_tup e, show isTu H (.ref _) = true by simp only [isTu, e]]; decide +kernel
theorem kit_list {H : Hp} {v : V} (k : Kn H v) : kitB (tnm H v) "list" = some (isLi H v) := by
  cases k with
  | non => show kitB "NoneType" "list" = some false; decide +kernel
  | bl b => show kitB "bool" "list" = some false; decide +kernel
  | int i => show kitB "int" "list" = some false; decide +kernel
  | str x => show kitB "str" "list" = some false; decide +kernel
  | lst e => rw [tnm_lst e, show isLi H (.ref _) = true by simp only [isLi, e]]; decide +kernel
  | tup e => rw [tnm_tup e, show isLi H (.ref _) = false by simp only [isLi, e]]; decide +kernel
theorem isTu_tup {H : Hp} {a : Addr} {xs : List V} (e : H a = some (.tup xs)) : isTu H (.ref a) = true := by simp only [isTu, e]
theorem isLi_lst {H : Hp} {a : Addr} {xs : List V} (e : H a = some (.lst xs)) : isLi H (.ref a) = true := by simp only [isLi, e]

/-! ### comprehensions that map -/
/-- n turns, each giving f i and leaving all that was tracked -/
theorem lc_mapW {J : It} {n : Nat} {G : Hp → Prop} {Y : Nat → Hp → V → Hp → Prop} (w : Walk J n G Y) {g : TG} {te : TE} {vs : List Nat} {σ : L2.St} {H1 : Hp} {D : Addr} {Qd : Hp → Prop} (f : Nat → V) (hn : n < sizeLine)
    (hG : ∀ H, Same H1 H → G H)
    (hs : ∀ (i : Nat) (x : V) (H H' : Hp) (R : VK), i < n → Same H1 H → Y i H x H' → (∀ H'', Same H H'' → R (f i) H'') → g x (wipe σ vs) H' fun σ2 H2 => wipe σ2 vs = wipe σ vs ∧ te σ2 H2 R)
    (hD : H1 D = none) (hd : ∀ H : Hp, Same H1 H → H D = some (.lst ((List.range n).map f)) → Qd H) :
    ∃ W : Nat → Nat → Hp → Prop, (∃ m, W 0 m (upd H1 D (.lst []))) ∧ ∀ i m H, W i m H →
      (J.stop i H ∧ Qd H) ∨ (J.go i H ∧ ∃ Nx : Hp → Prop, (∀ H', Nx H' → ∃ m', m' < m ∧ W (i + 1) m' H') ∧ ∀ x H', J.yld i H x H' → g x (wipe σ vs) H' fun σ2 H2 => wipe σ2 vs = wipe σ vs ∧ tYes σ2 H2 fun b H3 =>
        if b = true then te σ2 H3 fun y H4 => ∃ acc, H4 D = some (.lst acc) ∧ acc.length < sizeLine ∧ Nx (upd H4 D (.lst (acc ++ [y]))) else Nx H3) := by
  refine lc_it w (fun i H => Same H1 H ∧ H D = some (.lst ((List.range i).map f)) ∧ i ≤ n) ⟨sameNew hD, upd_same, Nat.zero_le _⟩ (fun i H _ p => hG H p.1) (fun i x H H' hi p y => ?_) fun H p => hd H p.1 p.2.1
  have q := hs i x H H' (fun y H4 => ∃ acc, H4 D = some (.lst acc) ∧ acc.length < sizeLine ∧ (Same H1 (upd H4 D (.lst (acc ++ [y]))) ∧ upd H4 D (.lst (acc ++ [y])) D = some (.lst ((List.range (i + 1)).map f)) ∧ i + 1 ≤ n)) hi p.1 y fun H'' s => by
    refine ⟨_, s D _ p.2.1, ?_, same_upd2 hD (p.1.trans s), ?_, hi⟩
    · rw [List.length_map, List.length_range]
      omega
    · rw [upd_same, List.range_succ, List.map_append]
      rfl
  exact q
theorem range_map_get {α β : Type} (xs : List α) (f : α → β) (d : Nat → β) (h : ∀ (i : Nat) (x : α), xs[i]? = some x → d i = f x) : (List.range xs.length).map d = xs.map f := by
  refine List.ext_getElem? fun i => ?_
  by_cases hi : i < xs.length
  · rw [List.getElem?_map, List.getElem?_map, List.getElem?_range hi, List.getElem?_eq_getElem hi]
    exact congrArg some (h i _ (List.getElem?_eq_getElem hi))
  · rw [List.getElem?_eq_none (by simp; omega), List.getElem?_eq_none (by simp; omega)]
/-- over a tuple -/
theorem lcT_map {K : PySem.W.Frag} {a : Addr} {xs : List V} {j : Nat} {te : TE} {vs : List Nat} {σ : L2.St} {H1 : Hp} {D : Addr} {Qd : Hp → Prop} (f : V → V) (ha : H1 a = some (.tup xs)) (hn : xs.length < sizeLine)
    (hs : ∀ (i : Nat) (x : V) (H : Hp) (R : VK), xs[i]? = some x → Same H1 H → (∀ H', Same H H' → R (f x) H') → wipe ((wipe σ vs).set j (some x)) vs = wipe σ vs ∧ te ((wipe σ vs).set j (some x)) H R)
    (hD : H1 D = none) (hd : ∀ H : Hp, Same H1 H → H D = some (.lst (xs.map f)) → Qd H) :
    ∃ W : Nat → Nat → Hp → Prop, (∃ m, W 0 m (upd H1 D (.lst []))) ∧ ∀ i m H, W i m H →
      ((Itt K a).stop i H ∧ Qd H) ∨ ((Itt K a).go i H ∧ ∃ Nx : Hp → Prop, (∀ H', Nx H' → ∃ m', m' < m ∧ W (i + 1) m' H') ∧ ∀ x H', (Itt K a).yld i H x H' → gName j x (wipe σ vs) H' fun σ2 H2 => wipe σ2 vs = wipe σ vs ∧ tYes σ2 H2 fun b H3 =>
        if b = true then te σ2 H3 fun y H4 => ∃ acc, H4 D = some (.lst acc) ∧ acc.length < sizeLine ∧ Nx (upd H4 D (.lst (acc ++ [y]))) else Nx H3) := by
  have e : (List.range xs.length).map (fun i => f (xs.getD i .non)) = xs.map f := range_map_get xs f _ fun i x h => by rw [List.getD_eq_getElem?_getD, h]; rfl
  refine lc_mapW (walk_tup (K := K) (a := a) (xs := xs)) (fun i => f (xs.getD i .non)) hn (fun H s => .inl (.inl (s _ _ ha))) (fun i x H H' R hi s y q => ?_) hD fun H s q => hd H s (by rw [q, e])
  obtain ⟨rfl, hx⟩ := y
  refine hs i x H' R hx s fun H'' s' => ?_
  have := q H'' s'
  rw [show xs.getD i .non = x by rw [List.getD_eq_getElem?_getD, hx]; rfl] at this
  exact this
/-- over a list -/
theorem lcL_map {K : PySem.W.Frag} {a : Addr} {xs : List V} {j : Nat} {te : TE} {vs : List Nat} {σ : L2.St} {H1 : Hp} {D : Addr} {Qd : Hp → Prop} (f : V → V) (ha : H1 a = some (.lst xs)) (hn : xs.length < sizeLine)
    (hs : ∀ (i : Nat) (x : V) (H : Hp) (R : VK), xs[i]? = some x → Same H1 H → (∀ H', Same H H' → R (f x) H') → wipe ((wipe σ vs).set j (some x)) vs = wipe σ vs ∧ te ((wipe σ vs).set j (some x)) H R)
    (hD : H1 D = none) (hd : ∀ H : Hp, Same H1 H → H D = some (.lst (xs.map f)) → Qd H) :
    ∃ W : Nat → Nat → Hp → Prop, (∃ m, W 0 m (upd H1 D (.lst []))) ∧ ∀ i m H, W i m H →
      ((Itl K a).stop i H ∧ Qd H) ∨ ((Itl K a).go i H ∧ ∃ Nx : Hp → Prop, (∀ H', Nx H' → ∃ m', m' < m ∧ W (i + 1) m' H') ∧ ∀ x H', (Itl K a).yld i H x H' → gName j x (wipe σ vs) H' fun σ2 H2 => wipe σ2 vs = wipe σ vs ∧ tYes σ2 H2 fun b H3 =>
        if b = true then te σ2 H3 fun y H4 => ∃ acc, H4 D = some (.lst acc) ∧ acc.length < sizeLine ∧ Nx (upd H4 D (.lst (acc ++ [y]))) else Nx H3) := by
  have e : (List.range xs.length).map (fun i => f (xs.getD i .non)) = xs.map f := range_map_get xs f _ fun i x h => by rw [List.getD_eq_getElem?_getD, h]; rfl
  refine lc_mapW (walk_list (K := K) (a := a) (xs := xs)) (fun i => f (xs.getD i .non)) hn (fun H s => .inl (.inl (s _ _ ha))) (fun i x H H' R hi s y q => ?_) hD fun H s q => hd H s (by rw [q, e])
  obtain ⟨rfl, hx⟩ := y
  refine hs i x H' R hx s fun H'' s' => ?_
  have := q H'' s'
  rw [show xs.getD i .non = x by rw [List.getD_eq_getElem?_getD, hx]; rfl] at this
  exact this
/-- over a range -/
theorem lcR_map {lo : Int} {n : Nat} {j : Nat} {te : TE} {vs : List Nat} {σ : L2.St} {H1 : Hp} {D : Addr} {Qd : Hp → Prop} (f : Nat → V) (hn : n < sizeLine)
    (hs : ∀ (i : Nat) (H : Hp) (R : VK), i < n → Same H1 H → (∀ H', Same H H' → R (f i) H') → wipe ((wipe σ vs).set j (some (.int (lo + i)))) vs = wipe σ vs ∧ te ((wipe σ vs).set j (some (.int (lo + i)))) H R)
    (hD : H1 D = none) (hd : ∀ H : Hp, Same H1 H → H D = some (.lst ((List.range n).map f)) → Qd H) :
    ∃ W : Nat → Nat → Hp → Prop, (∃ m, W 0 m (upd H1 D (.lst []))) ∧ ∀ i m H, W i m H →
      ((Itr lo n).stop i H ∧ Qd H) ∨ ((Itr lo n).go i H ∧ ∃ Nx : Hp → Prop, (∀ H', Nx H' → ∃ m', m' < m ∧ W (i + 1) m' H') ∧ ∀ x H', (Itr lo n).yld i H x H' → gName j x (wipe σ vs) H' fun σ2 H2 => wipe σ2 vs = wipe σ vs ∧ tYes σ2 H2 fun b H3 =>
        if b = true then te σ2 H3 fun y H4 => ∃ acc, H4 D = some (.lst acc) ∧ acc.length < sizeLine ∧ Nx (upd H4 D (.lst (acc ++ [y]))) else Nx H3) := by
  refine lc_mapW (walk_range (lo := lo) (n := n)) f hn (fun H s => True.intro) (fun i x H H' R hi s y q => ?_) hD fun H s q => hd H s q
  obtain ⟨rfl, rfl⟩ := y
  exact hs i H' R hi s q
theorem range_map_zip {α β γ : Type} (xs : List α) (ys : List β) (hl : xs.length = ys.length) (f : α → β → γ) (d : Nat → γ) (h : ∀ (i : Nat) (x : α) (y : β), xs[i]? = some x → ys[i]? = some y → d i = f x y) : (List.range xs.length).map d = List.zipWith f xs ys := by
  refine List.ext_getElem? fun i => ?_
  by_cases hi : i < xs.length
  · have hi2 : i < ys.length := by omega
    rw [List.getElem?_map, List.getElem?_range hi, List.getElem?_zipWith, List.getElem?_eq_getElem hi, List.getElem?_eq_getElem hi2]
    exact congrArg some (h i _ _ (List.getElem?_eq_getElem hi) (List.getElem?_eq_getElem hi2))
  · rw [List.getElem?_eq_none (by simp; omega), List.getElem?_eq_none (by simp; omega)]
/-- over zip -/
theorem lcZ_map {K : PySem.W.Frag} {k k' : Kd} {a b : Addr} {xs ys : List V} {i1 i2 : Nat} {te : TE} {vs : List Nat} {σ : L2.St} {H1 : Hp} {D : Addr} {Qd : Hp → Prop} (f : V → V → V) (hl : xs.length = ys.length) (hn : xs.length < sizeLine)
    (ha : ∀ H, Same H1 H → SqB K k H a xs ∧ SqB K k' H b ys)
    (hs : ∀ (i : Nat) (x y : V) (H : Hp) (R : VK), xs[i]? = some x → ys[i]? = some y → Same H1 H → (∀ H', Same H H' → R (f x y) H') → wipe (((wipe σ vs).set i1 (some x)).set i2 (some y)) vs = wipe σ vs ∧ te (((wipe σ vs).set i1 (some x)).set i2 (some y)) H R)
    (hD : H1 D = none) (hd : ∀ H : Hp, Same H1 H → H D = some (.lst (List.zipWith f xs ys)) → Qd H) :
    ∃ W : Nat → Nat → Hp → Prop, (∃ m, W 0 m (upd H1 D (.lst []))) ∧ ∀ i m H, W i m H →
      ((ItB K k k' a b).stop i H ∧ Qd H) ∨ ((ItB K k k' a b).go i H ∧ ∃ Nx : Hp → Prop, (∀ H', Nx H' → ∃ m', m' < m ∧ W (i + 1) m' H') ∧ ∀ x H', (ItB K k k' a b).yld i H x H' → gTup K 2 (gCons (gName i1) (gCons (gName i2) gNil)) x (wipe σ vs) H' fun σ2 H2 => wipe σ2 vs = wipe σ vs ∧ tYes σ2 H2 fun b H3 =>
        if b = true then te σ2 H3 fun y H4 => ∃ acc, H4 D = some (.lst acc) ∧ acc.length < sizeLine ∧ Nx (upd H4 D (.lst (acc ++ [y]))) else Nx H3) := by
  have e : (List.range xs.length).map (fun i => f (xs.getD i .non) (ys.getD i .non)) = List.zipWith f xs ys := range_map_zip xs ys hl f _ fun i x y h h' => by
    rw [List.getD_eq_getElem?_getD, List.getD_eq_getElem?_getD, h, h']
    rfl
  refine lc_mapW (walkB (K := K) (k := k) (k' := k') (a := a) (b := b) hl) (fun i => f (xs.getD i .non) (ys.getD i .non)) hn ha (fun i v H H' R hi s y q => ?_) hD fun H s q => hd H s (by rw [q, e])
  obtain ⟨T, x, y, rfl, hT, rfl, hx, hy⟩ := y
  have hx : xs[i]? = some x := hx
  have hy : ys[i]? = some y := hy
  have st : Same H (upd H T (.tup [x, y])) := sameNew hT
  refine ⟨T, [x, y], rfl, .inl (.inl upd_same), rfl, x, [y], rfl, y, [], rfl, rfl, hs i x y _ R hx hy (s.trans st) fun H'' s' => ?_⟩
  have := q H'' (st.trans s')
  rw [show xs.getD i .non = x by rw [List.getD_eq_getElem?_getD, hx]; rfl, show ys.getD i .non = y by rw [List.getD_eq_getElem?_getD, hy]; rfl] at this
  exact this
end CK

set_option Elab.async false
set_option linter.all false
set_option maxRecDepth 100000
set_option maxHeartbeats 2000000
namespace CK
open PySem PySem.Spec PyProof.Rows L2
theorem cutV_drop (xs : List V) (k : Nat) : cutV xs (some (k : Int)) none = xs.drop k := by
  unfold cutV
  rw [HT.sIx_nat xs.length 0 k, HT.sIx_none]
  by_cases h : k ≤ xs.length
  · rw [Nat.min_eq_left h, List.take_of_length_le (by rw [List.length_drop]; exact Nat.le_refl _)]
  · rw [Nat.min_eq_right (by omega), List.drop_of_length_le (Nat.le_refl _), List.drop_of_length_le (by omega), List.take_nil]
theorem cutV_take (xs : List V) (k : Nat) : cutV xs none (some (k : Int)) = xs.take k := by
  unfold cutV
  rw [HT.sIx_nat xs.length xs.length k, HT.sIx_none]
  show (xs.drop 0).take (min k xs.length - 0) = xs.take k
  rw [List.drop_zero, Nat.sub_zero]
  by_cases h : k ≤ xs.length
  · rw [Nat.min_eq_left h]
  · rw [Nat.min_eq_right (by omega), List.take_of_length_le (Nat.le_refl _), List.take_of_length_le (by omega)]
section
variable {X : Cx}
/-- a, b = a pair -/
theorem pg_two {K : PySem.W.Frag} {i j : Nat} {x y : Str} {px py pos : Pos} {k : Nat} (hK : X.K = K) (hc : X.calm = true) (hN : X.N.Nodup) (hi : X.N[i]? = some x) (hj : X.N[j]? = some y) (hx : Loc X.env.scope x) (hy : Loc X.env.scope y)
    (f1 : X.fn x = true ∨ X.env.scope.names.lookup x = some .local := by first | exact .inl rfl | exact .inr rfl)
    (f2 : X.fn y = true ∨ X.env.scope.names.lookup y = some .local := by first | exact .inl rfl | exact .inr rfl) :
    PG X (.Tuple [.Name x px, .Name y py] k pos) (gTup K 2 (gCons (gName i) (gCons (gName j) gNil))) := by
  subst hK
  exact pg_tup hc (pgs_cons (pg_name hN hi hx f1) (pgs_cons (pg_name hN hj hy f2) pgs_nil))
/-- t[k:], a tuple: what is behind, wherever it stands -/
theorem sl_drop : SlR X (fun x lo hi H Q => ∃ (a : Addr) (xs : List V) (k : Nat), x = .ref a ∧ lo = some (k : Int) ∧ hi = none ∧ H a = some (.tup xs) ∧ ∀ p H', Same H H' → H' p = some (.tup (xs.drop k)) → Q (.ref p) H') := by
  intro pins s σ H x v vl vu lo hi sl Q I rx hs pl pu h
  obtain ⟨a, xs, k, rfl, rfl, rfl, ha, q⟩ := h
  refine sl_tupA pins s σ H _ v vl vu _ _ sl Q I rx hs pl pu ⟨a, xs, rfl, .inl (.inl ha), fun z => q a H (Same.refl H) ?_, fun _ p hp => q p _ (sameNew hp) (by rw [upd_same, cutV_drop])⟩
  rw [ha, ← cutV_drop xs k]
  unfold cutV
  rw [z.1, z.2, Nat.sub_zero, List.drop_zero, List.take_length]
/-- t[:k] -/
theorem sl_take : SlR X (fun x lo hi H Q => ∃ (a : Addr) (xs : List V) (k : Nat), x = .ref a ∧ lo = none ∧ hi = some (k : Int) ∧ H a = some (.tup xs) ∧ ∀ p H', Same H H' → H' p = some (.tup (xs.take k)) → Q (.ref p) H') := by
  intro pins s σ H x v vl vu lo hi sl Q I rx hs pl pu h
  obtain ⟨a, xs, k, rfl, rfl, rfl, ha, q⟩ := h
  refine sl_tupA pins s σ H _ v vl vu _ _ sl Q I rx hs pl pu ⟨a, xs, rfl, .inl (.inl ha), fun z => q a H (Same.refl H) ?_, fun _ p hp => q p _ (sameNew hp) (by rw [upd_same, cutV_take])⟩
  rw [ha, ← cutV_take xs k]
  unfold cutV
  rw [z.1, z.2, Nat.sub_zero, List.drop_zero, List.take_length]
/-- t + u, tuples -/
theorem op_catS : OpR X (binaryOp .Add) (fun x y H Q => ∃ (a b : Addr) (xs ys : List V), x = .ref a ∧ y = .ref b ∧ H a = some (.tup xs) ∧ H b = some (.tup ys) ∧ xs.length + ys.length ≤ 1000 ∧
    ∀ p H', Same H H' → H' p = some (.tup (xs ++ ys)) → Q (.ref p) H') := by
  intro pins s σ H x y v u Q I rx ry h
  obtain ⟨a, b, xs, ys, rfl, rfl, ha, hb, hl, q⟩ := h
  refine op_catA pins s σ H _ _ v u Q I rx ry ⟨a, b, xs, ys, rfl, rfl, .inl (.inl ha), .inl (.inl hb), Nat.le_of_lt (small1000 hl), fun e => ?_, fun _ e => ?_, fun _ _ p hp => q p _ (sameNew hp) upd_same⟩
  · subst e
    exact q b H (Same.refl H) hb
  · subst e
    exact q a H (Same.refl H) (by rw [List.append_nil]; exact ha)
/-- t[i], xs[i] of what is tracked (no word of the written part, so that it stands in a comprehension) -/
theorem ix_tupH : IxR X (fun x y H Q => ∃ (p : Addr) (xs : List V) (i : Int) (v : V), x = .ref p ∧ y = .int i ∧ H p = some (.tup xs) ∧ atI xs i = some v ∧ Q v H) := by
  intro ve se pins s σ H x y xv yv Q I rx ry h e
  obtain ⟨p, xs, i, v, e1, e2, hp, e3, q⟩ := h
  exact ix_tup ve se pins s σ H x y xv yv Q I rx ry ⟨p, xs, i, v, e1, e2, .inl (.inl hp), e3, q⟩ e
theorem ix_listH : IxR X (fun x y H Q => ∃ (p : Addr) (xs : List V) (i : Int) (v : V), x = .ref p ∧ y = .int i ∧ H p = some (.lst xs) ∧ atI xs i = some v ∧ Q v H) := by
  intro ve se pins s σ H x y xv yv Q I rx ry h e
  obtain ⟨p, xs, i, v, e1, e2, hp, e3, q⟩ := h
  exact ix_list ve se pins s σ H x y xv yv Q I rx ry ⟨p, xs, i, v, e1, e2, .inl (.inl hp), e3, q⟩ e
theorem cr_sumH (hc : X.calm = true) : CallR X (.builtin "sum") (fun vs H Q => ∃ (a : Addr) (ns : List Int), vs = [V.ref a] ∧ H a = some (.lst (ns.map V.int)) ∧ Q (.int ns.sum) H) := by
  intro pins s σ H xs us Q I r h
  obtain ⟨a, ns, e, ha, q⟩ := h
  exact cr_sum hc pins s σ H xs us Q I r ⟨a, ns, e, .inl (.inl ha), q⟩
theorem call_listL : CallR X (.type "list") (fun xs H Q => ∃ (p : Addr) (ys : List V), xs = [.ref p] ∧ H p = some (.lst ys) ∧ ∀ l, H l = none → Q (.ref l) (upd H l (.lst ys))) := by
  intro pins s σ H xs us Q I r h
  obtain ⟨p, ys, e, hp, q⟩ := h
  exact call_list_of pins s σ H xs us Q I r ⟨p, ys, e, .inl (.inl (.inl hp)), q⟩
/-- tuple(xs) of a list: a new tuple -/
theorem call_tupL : CallR X (.type "tuple") (fun xs H Q => ∃ (p : Addr) (ys : List V), xs = [.ref p] ∧ H p = some (.lst ys) ∧ ∀ l H', Same H H' → H' l = some (.tup ys) → Q (.ref l) H') := by
  intro pins s σ H xs us Q I r h
  obtain ⟨p, ys, rfl, hp, q⟩ := h
  exact call_tuple_of pins s σ H _ us Q I r ⟨p, ys, rfl, .inl ⟨.inl (.inl hp), fun l hl => q l _ (sameNew hl) upd_same⟩⟩
end
end CK

set_option Elab.async false
set_option linter.all false
set_option maxRecDepth 100000
set_option maxHeartbeats 2000000
/-! the laws' generator of numbers: a list of three whole numbers -/
namespace CK
open PySem PySem.Spec PyProof.Rows L2
/-- the generator at g, from which n more numbers may be drawn -/
def Gn (n : Nat) (H : Hp) (g : Addr) : Prop := ∃ a b c : Int, H g = some (.lst [.int a, .int b, .int c]) ∧ 0 ≤ a ∧ 0 ≤ b ∧ b < 2 ^ 31 ∧ 0 ≤ c ∧ c + 8 * n ≤ 2 ^ 40
theorem Gn.le {n m : Nat} {H : Hp} {g : Addr} (h : Gn n H g) (hm : m ≤ n) : Gn m H g := by
  obtain ⟨a, b, c, h1, h2, h3, h4, h5, h6⟩ := h
  exact ⟨a, b, c, h1, h2, h3, h4, h5, by omega⟩
theorem Gn.same {n : Nat} {H H' : Hp} {g : Addr} (h : Gn n H g) (s : Same H H') : Gn n H' g := by
  obtain ⟨a, b, c, h1, r⟩ := h
  exact ⟨a, b, c, s _ _ h1, r⟩
theorem Gn.at {n : Nat} {H : Hp} {g : Addr} (h : Gn n H g) : ∃ xs, H g = some (.lst xs) := by
  obtain ⟨a, b, c, h1, r⟩ := h
  exact ⟨_, h1⟩
theorem Gn.ne {n : Nat} {H : Hp} {g D : Addr} (h : Gn n H g) (hD : H D = none) : D ≠ g := fun e => by
  obtain ⟨xs, h1⟩ := h.at
  rw [e, h1] at hD
  cases hD
theorem Gn.upd {n : Nat} {H : Hp} {g D : Addr} {o : HO} (h : Gn n H g) (hD : D ≠ g) : Gn n (upd H D o) g := by
  obtain ⟨a, b, c, h1, r⟩ := h
  exact ⟨a, b, c, by rw [upd_ne (Ne.symm hD)]; exact h1, r⟩
theorem sameX_new {g : Addr} {H : Hp} {D : Addr} {o : HO} (hD : H D = none) : SameX g H (L2.upd H D o) := .of (sameNew hD)
theorem SameX.upd2 {g D : Addr} {H H1 : Hp} {o : HO} (s : SameX g H H1) (hD : H D = none) : SameX g H (L2.upd H1 D o) := fun b z n e => by
  rw [upd_ne (ne_of_none e hD)]
  exact s b z n e
theorem SameX.tup {g a : Addr} {H H' : Hp} {xs : List V} {n : Nat} (s : SameX g H H') (G : Gn n H g) (h : H a = some (.tup xs)) : H' a = some (.tup xs) := s a _ (fun e => by
  obtain ⟨ys, h1⟩ := G.at
  rw [e, h1] at h
  cases h) h
theorem ix_at {n j : Nat} (h : j < n) : ixN n (j : Int) = some j := by
  unfold ixN
  rw [if_pos (by omega), if_pos (by omega)]
  rfl
/-- a comprehension that draws: its numbers stay within most -/
theorem lcD_draw {lo : Int} {g : Addr} {n cnt j : Nat} {most : Int} {te : TE} {vs : List Nat} {σ : L2.St} {H1 : Hp} {D : Addr} {Qd : Hp → Prop} (hc : cnt < sizeLine) (hD : H1 D = none) (hg : Gn (n + cnt) H1 g)
    (hs : ∀ (i : Nat) (H : Hp) (R : VK), i < cnt → SameX g H1 H → Gn (n + (cnt - (i + 1)) + 1) H g → (∀ (r : Int) H', SameX g H H' → Gn (n + (cnt - (i + 1))) H' g → 0 ≤ r → r ≤ most → R (.int r) H') →
      wipe ((wipe σ vs).set j (some (.int (lo + i)))) vs = wipe σ vs ∧ te ((wipe σ vs).set j (some (.int (lo + i)))) H R)
    (hd : ∀ (H : Hp) (ns : List Int), SameX g H1 H → Gn n H g → H D = some (.lst (ns.map V.int)) → ns.length = cnt → (∀ x ∈ ns, 0 ≤ x ∧ x ≤ most) → Qd H) :
    ∃ W : Nat → Nat → Hp → Prop, (∃ m, W 0 m (L2.upd H1 D (.lst []))) ∧ ∀ i m H, W i m H →
      ((Itr lo cnt).stop i H ∧ Qd H) ∨ ((Itr lo cnt).go i H ∧ ∃ Nx : Hp → Prop, (∀ H', Nx H' → ∃ m', m' < m ∧ W (i + 1) m' H') ∧ ∀ x H', (Itr lo cnt).yld i H x H' → gName j x (wipe σ vs) H' fun σ2 H2 => wipe σ2 vs = wipe σ vs ∧ tYes σ2 H2 fun b H3 =>
        if b = true then te σ2 H3 fun y H4 => ∃ acc, H4 D = some (.lst acc) ∧ acc.length < sizeLine ∧ Nx (L2.upd H4 D (.lst (acc ++ [y]))) else Nx H3) := by
  have hDg := hg.ne hD
  refine lc_range (fun i H => SameX g H1 H ∧ Gn (n + (cnt - i)) H g ∧ i ≤ cnt ∧ ∃ ns : List Int, H D = some (.lst (ns.map V.int)) ∧ ns.length = i ∧ ∀ x ∈ ns, 0 ≤ x ∧ x ≤ most)
    ⟨sameX_new hD, hg.upd hDg, Nat.zero_le _, [], upd_same, rfl, fun x h => absurd h List.not_mem_nil⟩ (fun i H hi p => ?_) fun H p => ?_
  · obtain ⟨s, G, _, ns, hL, hl, hb⟩ := p
    have G1 : Gn (n + (cnt - (i + 1)) + 1) H g := by
      have e : n + (cnt - (i + 1)) + 1 = n + (cnt - i) := by omega
      rw [e]
      exact G
    refine hs i H _ hi s G1 fun r H' s' G' h0 h1 => ⟨_, s' D _ hDg hL, by rw [List.length_map]; omega, (s.trans s').upd2 hD, G'.upd hDg, hi, ns ++ [r], ?_, ?_, fun x hx => ?_⟩
    · rw [upd_same, List.map_append]
      rfl
    · rw [List.length_append, hl]
      rfl
    · rcases List.mem_append.mp hx with z | z
      · exact hb x z
      · rw [List.mem_singleton.mp z]
        exact ⟨h0, h1⟩
  · obtain ⟨s, G, _, ns, hL, hl, hb⟩ := p
    rw [Nat.sub_self] at G
    exact hd H ns s G hL hl hb
end CK

set_option Elab.async false
set_option linter.all false
set_option maxRecDepth 100000
set_option maxHeartbeats 2000000
namespace CK
open PySem PySem.Spec PyProof.Rows L2
/-! ### data that are compared -/
def dI (ns : List Int) : PyData := .tuple (ns.map PyData.int)
theorem lay_ints : ∀ ns : List Int, PyData.canLayAll0 (ns.map PyData.int) = true
  | [] => by simp [PyData.canLayAll0]
  | n :: ns => by
    rw [List.map_cons, PyData.canLayAll0, lay_ints ns]
    simp [PyData.canLay0]
theorem deep_ints : ∀ ns : List Int, PyData.depthAll (ns.map PyData.int) = 0
  | [] => by simp [PyData.depthAll]
  | n :: ns => by
    rw [List.map_cons, PyData.depthAll, deep_ints ns]
    simp [PyData.depth]
theorem lay_dI (ns : List Int) : (dI ns).canLay0 = true := by
  unfold dI
  rw [PyData.canLay0]
  exact lay_ints ns
theorem deep_dI (ns : List Int) : (dI ns).depth = 1 := by
  unfold dI
  rw [PyData.depth, deep_ints]
theorem shaped_dI (ns : List Int) : SeqAt.shaped (dI ns) = true := by
  unfold SeqAt.shaped
  rw [lay_dI, deep_dI]
  rfl
theorem lay_forms : ∀ fs : List (List Int), PyData.canLayAll0 (fs.map dI) = true
  | [] => by simp [PyData.canLayAll0]
  | f :: fs => by
    rw [List.map_cons, PyData.canLayAll0, lay_forms fs, lay_dI]
    rfl
theorem deep_forms : ∀ fs : List (List Int), PyData.depthAll (fs.map dI) ≤ 1
  | [] => by simp [PyData.depthAll]
  | f :: fs => by
    have := deep_forms fs
    rw [List.map_cons, PyData.depthAll, deep_dI]
    omega
theorem shaped_forms (fs : List (List Int)) : SeqAt.shaped (.list (fs.map dI)) = true := by
  unfold SeqAt.shaped
  rw [PyData.canLay0, lay_forms, PyData.depth]
  have := deep_forms fs
  rw [decide_eq_true (by omega)]
  rfl
section
variable {K : PySem.W.Frag} {H : Hp}
theorem dpAll_ints : ∀ ns : List Int, DpAll K H (ns.map V.int) (ns.map PyData.int)
  | [] => .nil
  | n :: ns => .cons (.int n) (dpAll_ints ns)
theorem dp_ints {a : Addr} {ns : List Int} (h : H a = some (.tup (ns.map V.int))) : Dp K H (.ref a) (dI ns) := .tup (.inl (.inl h)) (dpAll_ints ns)
end
section
variable {X : Cx}
/-- x != y, of equal data -/
theorem op_neSame (hu : X.A.units + 64 < cLine) : OpR X (compareOp .NotEq) (fun x y H Q => ∃ d, Dp X.K H x d ∧ Dp X.K H y d ∧ SeqAt.shaped d = true ∧ Q (.bl false) H) := by
  intro pins s σ H x y v u Q I rx ry h
  obtain ⟨d, h1, h2, h3, q⟩ := h
  refine op_neD hu pins s σ H x y v u Q I rx ry ⟨d, d, h1, h2, h3, h3, ?_⟩
  rw [SeqAt.eqv_refl d (SeqAt.canLay_of_shaped h3)]
  exact q
end
/-! ### comprehensions that map, by the turn's number -/
theorem lcZ_mapI {K : PySem.W.Frag} {k k' : Kd} {a b : Addr} {xs ys : List V} {i1 i2 : Nat} {te : TE} {vs : List Nat} {σ : L2.St} {H1 : Hp} {D : Addr} {Qd : Hp → Prop} (f : Nat → V) (hl : xs.length = ys.length) (hn : xs.length < sizeLine)
    (ha : ∀ H, Same H1 H → SqB K k H a xs ∧ SqB K k' H b ys)
    (hs : ∀ (i : Nat) (x y : V) (H : Hp) (R : VK), xs[i]? = some x → ys[i]? = some y → Same H1 H → (∀ H', Same H H' → R (f i) H') → wipe (((wipe σ vs).set i1 (some x)).set i2 (some y)) vs = wipe σ vs ∧ te (((wipe σ vs).set i1 (some x)).set i2 (some y)) H R)
    (hD : H1 D = none) (hd : ∀ H : Hp, Same H1 H → H D = some (.lst ((List.range xs.length).map f)) → Qd H) :
    ∃ W : Nat → Nat → Hp → Prop, (∃ m, W 0 m (upd H1 D (.lst []))) ∧ ∀ i m H, W i m H →
      ((ItB K k k' a b).stop i H ∧ Qd H) ∨ ((ItB K k k' a b).go i H ∧ ∃ Nx : Hp → Prop, (∀ H', Nx H' → ∃ m', m' < m ∧ W (i + 1) m' H') ∧ ∀ x H', (ItB K k k' a b).yld i H x H' → gTup K 2 (gCons (gName i1) (gCons (gName i2) gNil)) x (wipe σ vs) H' fun σ2 H2 => wipe σ2 vs = wipe σ vs ∧ tYes σ2 H2 fun b H3 =>
        if b = true then te σ2 H3 fun y H4 => ∃ acc, H4 D = some (.lst acc) ∧ acc.length < sizeLine ∧ Nx (upd H4 D (.lst (acc ++ [y]))) else Nx H3) := by
  refine lc_mapW (walkB (K := K) (k := k) (k' := k') (a := a) (b := b) hl) f hn ha (fun i v H H' R hi s y q => ?_) hD hd
  obtain ⟨T, x, y, rfl, hT, rfl, hx, hy⟩ := y
  have hx : xs[i]? = some x := hx
  have hy : ys[i]? = some y := hy
  have st : Same H (upd H T (.tup [x, y])) := sameNew hT
  exact ⟨T, [x, y], rfl, .inl (.inl upd_same), rfl, x, [y], rfl, y, [], rfl, rfl, hs i x y _ R hx hy (s.trans st) fun H'' s' => q H'' (st.trans s')⟩
theorem lcL_mapI {K : PySem.W.Frag} {a : Addr} {xs : List V} {j : Nat} {te : TE} {vs : List Nat} {σ : L2.St} {H1 : Hp} {D : Addr} {Qd : Hp → Prop} (f : Nat → V) (ha : H1 a = some (.lst xs)) (hn : xs.length < sizeLine)
    (hs : ∀ (i : Nat) (x : V) (H : Hp) (R : VK), xs[i]? = some x → Same H1 H → (∀ H', Same H H' → R (f i) H') → wipe ((wipe σ vs).set j (some x)) vs = wipe σ vs ∧ te ((wipe σ vs).set j (some x)) H R)
    (hD : H1 D = none) (hd : ∀ H : Hp, Same H1 H → H D = some (.lst ((List.range xs.length).map f)) → Qd H) :
    ∃ W : Nat → Nat → Hp → Prop, (∃ m, W 0 m (upd H1 D (.lst []))) ∧ ∀ i m H, W i m H →
      ((Itl K a).stop i H ∧ Qd H) ∨ ((Itl K a).go i H ∧ ∃ Nx : Hp → Prop, (∀ H', Nx H' → ∃ m', m' < m ∧ W (i + 1) m' H') ∧ ∀ x H', (Itl K a).yld i H x H' → gName j x (wipe σ vs) H' fun σ2 H2 => wipe σ2 vs = wipe σ vs ∧ tYes σ2 H2 fun b H3 =>
        if b = true then te σ2 H3 fun y H4 => ∃ acc, H4 D = some (.lst acc) ∧ acc.length < sizeLine ∧ Nx (upd H4 D (.lst (acc ++ [y]))) else Nx H3) := by
  refine lc_mapW (walk_list (K := K) (a := a) (xs := xs)) f hn (fun H s => .inl (.inl (s _ _ ha))) (fun i x H H' R hi s y q => ?_) hD hd
  obtain ⟨rfl, hx⟩ := y
  exact hs i x H' R hx s q
end CK

set_option Elab.async false
set_option linter.all false
set_option maxRecDepth 100000
set_option maxHeartbeats 2000000
/-! own classes: their facts, their methods' promises by their bodies -/
namespace CK
open PySem PySem.Spec PyProof.Rows L2
/-- a method's def as it stands behind the top -/
structure MetF (K : PySem.W.Frag) (C : Addr) (m q : Str) (st : Stmt) (ps : List Str) : Prop where
  ex : ∃ (f : Addr) (fd : FuncData), C8.Fun K m q st f fd ∧ Meth K C m f ∧ Binds K fd ps []
/-- a class as it stands -/
structure ClF (K : PySem.W.Frag) (mg : Str → Option Value) (x : Str) (C : Addr) : Prop where
  mgC : mg x = some (.ref C)
  makes : PySem.W.makesIn K C = true
  kp : PySem.W.keepIn K (.ref C) = true
  ins : C8.InsC K C
theorem metF_mk {K : PySem.W.Frag} {mg : Str → Option Value} {x : Str} {C : Addr} (_ : ClF K mg x C) (m q : Str) (st : Stmt) (ps : List Str) {f : Addr} {od an : Option Addr} {oc kV dc pm cd ct : Value} {sl : Array (Option Value)}
    (a : PySem.W.findIn K (.ref C) m = some (some (.ref f))) (i : PySem.W.isFn K (.ref f) = true)
    (l : K.lookup f = some ⟨oc, od, .func (PySem.W.fnOf m q (C8.fnArgs st) (C8.fnBody st) (C8.fnScope st) .none kV dc pm an cd ct), sl⟩)
    (c : PySem.W.codeIn K cd q = true) (k : PySem.W.keepIn K (.ref f) = true)
    (hb : ∀ (kV doc pm : Value) (an : Option Addr) (cdv ct : Value) (us : List Value), us.length = ps.length →
      bindArgs (PySem.W.fnOf m q (C8.fnArgs st) (C8.fnBody st) (C8.fnScope st) .none kV doc pm an cdv ct) ⟨us, []⟩ = pure (ps.zip us)) : MetF K C m q st ps :=
  ⟨f, _, ⟨oc, od, .none, kV, dc, pm, an, cd, ct, sl, rfl, l, c⟩, ⟨a, i, k⟩, C8.Fun.binds ⟨oc, od, .none, kV, dc, pm, an, cd, ct, sl, rfl, l, c⟩ rfl hb⟩
theorem clF_mk {K : PySem.W.Frag} {h : Heap} {mg : Str → Option Value} {x : Str} {C : Addr} (X : K.In h) (G : h.Ns mainGlobals mg)
    (a : PySem.W.nsIn K mainGlobals x = some (some (.ref C))) (pg : PySem.W.plainGet K C Str.empty = true) (hd : PySem.W.hasDictIn K C = true) (po : PySem.W.plainOver K C = true)
    (sa : PySem.W.findIn K (.ref C) "__setattr__" = some (some (.builtin "object.__setattr__"))) (mk : PySem.W.makesIn K C = true) (kp : PySem.W.keepIn K (.ref C) = true)
    (ha : PySem.W.findIn K (.ref C) "__class__" = some (some (.builtin "object.__class__"))) (hn : PySem.W.specialIn K (.builtin "object.__class__") "__get__" = some (some (.builtin "getset_descriptor.__get__")))
    (htk : PySem.W.takesIn K (.builtin "object.__class__") = some true) (hm : PySem.W.mroIn K C (.type "object") = some true) : ClF K mg x C :=
  ⟨PySem.W.mg_of X G a, mk, kp, ⟨⟨pg, hd, po, sa⟩, ha, hn, htk, hm, if_pos (beq_self_eq_true _)⟩⟩
theorem with_cls {K : PySem.W.Frag} {h : Heap} {mg : Str → Option Value} (_ : K.In h) (x : Str) {C : Addr} {R : Prop} (d : ClF K mg x C) (r : ClF K mg x C → R) : R := r d
theorem with_met {K : PySem.W.Frag} {mg : Str → Option Value} {x : Str} {C : Addr} (_ : ClF K mg x C) (m q : Str) (st : Stmt) (ps : List Str) {R : Prop} (d : MetF K C m q st ps) (r : MetF K C m q st ps → R) : R := r d
section
variable {P : Program} {w : World} {K : PySem.W.Frag} {mg : Str → Option Value} {base : Heap} {x : Str} {C : Addr}
theorem metF {m q : Str} {st : Stmt} {N ps : List Str} {k : Nat} {sp : Sp} (c : ClF K mg x C) (D : MetF K C m q st ps) (S : FnScope N ps (C8.fnScope st))
    (len : ∀ vs H Q E, sp vs H Q E → vs.length = ps.length)
    (hbody : ∀ (f : Addr) (cdv : Value) (A : Around) (outer : List Env) (s : Shared) (H : Hp) (vs : List V) (Q : VK) (E : XK), Room k (A.deeper (envOfC q (C8.fnScope st) s.heap.objs.size f cdv)) → sp vs H Q E →
      ∃ t, PSs (cxOf C8.CX0 P w K mg base N q (C8.fnScope st) f cdv A outer s H E).nox (C8.fnBody st) t ∧ t { nx := fun _ H' => Q .non H', rt := Q } (start N vs) H) : C8.Met P w K mg base (k + 1) C m sp [] := by
  obtain ⟨f, fd, F, me, b⟩ := D.ex
  exact C8.met0 c.ins.cl me F b S len (hbody f)
theorem makF {q : Str} {st : Stmt} {N ps : List Str} {k : Nat} {sp : Sp} (c : ClF K mg x C) (D : MetF K C "__init__" q st ps) (S : FnScope N ps (C8.fnScope st))
    (len : ∀ vs H Q E, sp vs H Q E → vs.length = ps.length)
    (hbody : ∀ (f : Addr) (cdv : Value) (A : Around) (outer : List Env) (s : Shared) (H : Hp) (vs : List V) (Q : VK) (E : XK), Room k (A.deeper (envOfC q (C8.fnScope st) s.heap.objs.size f cdv)) → sp vs H Q E →
      ∃ t, PSs (cxOf C8.CX0 P w K mg base N q (C8.fnScope st) f cdv A outer s H E).nox (C8.fnBody st) t ∧ t { nx := fun _ H' => Q .non H', rt := Q } (start N vs) H) : C8.Mak P w K mg base (k + 1) x C sp [] := by
  obtain ⟨f, fd, F, me, b⟩ := D.ex
  exact C8.mak0 ⟨c.makes, me.at_, me.fn, c.kp⟩ c.mgC F b .nil S len (hbody f)
end
end CK
namespace CK
open PySem L2
theorem noA {K : PySem.W.Frag} {mg : Str → Option Value} {x : Str} {C : Addr} (_ : ClF K mg x C) (f : Str) (h : PySem.W.findIn K (.ref C) f = some none) : NoAttr K C f := h
end CK

set_option Elab.async false
set_option linter.all false
set_option maxRecDepth 100000
set_option maxHeartbeats 2000000
/-! texts by their code points -/
namespace CK
open PySem PySem.Spec PyProof.Rows L2 SX
theorem rev_S (z : List Nat) : (⟨((Builtin.Str.strSliceIndices none none (-1) (S z).length).filterMap ((S z).cps[·]?)).toArray⟩ : Str) = S z.reverse := by
  refine TL.ext_tl ?_
  show ((Builtin.Str.strSliceIndices none none (-1) (S z).length).filterMap ((S z).cps[·]?)).toArray.toList = z.reverse
  rw [List.toList_toArray, S_len, picked_rev, filterMap_get, List.map_map]
  · refine List.ext_getElem (by simp) fun i h1 h2 => ?_
    have hi : i < z.length := by simpa using h1
    rw [List.getElem_map, List.getElem_range, List.getElem_reverse]
    show (S z).cps.getD (z.length - 1 - i) 0 = _
    have : z.length - 1 - i < z.length := by omega
    simp [Array.getD, S, this]
  · intro i hi
    obtain ⟨k, hk, rfl⟩ := List.mem_map.mp hi
    have := List.mem_range.mp hk
    show z.length - 1 - k < z.length
    omega
section
variable {X : Cx}
/-- s[::-1] -/
def tRevS (te : TE) : TE := fun σ H Q => te σ H fun x H1 => ∃ z : List Nat, x = .str (S z) ∧ z.length ≤ sizeLine ∧ Q (.str (S z.reverse)) H1
theorem pe_revS {e : Expr} {te : TE} {k : Nat} {p1 p2 p3 pos : Pos} (he : PE X e te) : PE X (.Subscript e (.Slice none none (some (.UnaryOp .USub (.Constant (.int 1) k p1) p2)) p3) pos) (tRevS te) := by
  refine ⟨fun pins s σ H Q I h => ?_⟩
  refine Subscript_ (thn (he.run pins s σ H _ I h) fun v s1 ⟨x, H1, I1, r1, q1⟩ => ?_)
  obtain ⟨z, ex, hz, q⟩ := q1
  subst ex
  obtain ⟨t, rfl⟩ := r1
  have hst : PO X (some (.UnaryOp .USub (.Constant (.int 1) k p1) p2)) (tPart (tUn (rU fun i => .int (-i)) (tC (.int 1)))) := po_some (pe_un un_neg pe_int)
  refine wpAny_Slice (thn (po_none.run pins s1 σ H1 (fun o H2 => o = none ∧ H2 = H1) I1 ⟨rfl, rfl⟩) fun vl s2 ⟨l, H2, I2, pl, el, e2⟩ => ?_)
  subst el e2
  refine thn (po_none.run pins s2 σ H2 (fun o H3 => o = none ∧ H3 = H2) I2 ⟨rfl, rfl⟩) fun vu s3 ⟨u, H3, I3, pu, eu, e3⟩ => ?_
  subst eu e3
  refine thn (hst.run pins s3 σ H3 (fun o H4 => o = some (-1) ∧ H4 = H3) I3 ⟨1, rfl, -1, rfl, rfl, rfl⟩) fun vs s4 ⟨o, H4, I4, ps, eo, e4⟩ => ?_
  subst eo e4
  have I5 : Inv X pins σ H4 { s4 with heap := s4.heap.push { cls := .type "slice", data := .fields #[vl, vu, vs] } } := I4.kept (t' := s4.toks) fun b ob q => Heap.get?_push_of_some _ q
  show wpAny (model X.prog X.w) X.A (subscriptTail e (.Slice none none (some (.UnaryOp .USub (.Constant (.int 1) k p1) p2)) p3) (.str (S z) t) (.ref s4.heap.objs.size)) (EP X pins σ Q) X.xe { s4 with heap := s4.heap.push { cls := .type "slice", data := .fields #[vl, vu, vs] } }
  refine tail_any (ops := [.str (S z) t, .ref s4.heap.objs.size]) (typeIs_str _ _ _) F.slot_str_getitem.lookup ?_ (by with_unfolding_all rfl)
  obtain ⟨l, rfl, el⟩ := IsPart.raw pl
  obtain ⟨u, rfl, eu⟩ := IsPart.raw pu
  obtain ⟨st, rfl, es⟩ := IsPart.raw ps
  refine wpAny_getItem_str_slice (l := l) (u := u) (st := st) ⟨_, Heap.get?_push_size _ rfl, rfl, rfl⟩ (by rw [es]; decide) ?_
  unfold sliceMade slicePicked
  rw [es, el, eu]
  have hr := rev_S z
  show Made.post (.str ⟨((Builtin.Str.strSliceIndices none none (-1) (S z).length).filterMap ((S z).cps[·]?)).toArray⟩) _ _
  rw [hr]
  exact ⟨by rw [S_len, List.length_reverse]; exact hz, .str _, H4, I5.tok _, ⟨_, rfl⟩, q⟩
/-- s * n -/
theorem foldl_arr {α : Type} : ∀ (n : Nat) (w : Array α) (acc : Array α), ((List.replicate n w).foldl (fun a b => a ++ b) acc).toList = acc.toList ++ (List.replicate n w.toList).flatten
  | 0, _, _ => by simp
  | n + 1, w, acc => by
    rw [List.replicate_succ, List.foldl_cons, foldl_arr n w (acc ++ w), List.replicate_succ, List.flatten_cons, Array.toList_append, List.append_assoc]
theorem op_repS : OpR X (binaryOp .Mult) (fun x y H Q => ∃ (z : List Nat) (n : Nat), x = .str (S z) ∧ y = .int n ∧ n ≤ 1000 ∧ z.length ≤ 1000 ∧ Q (.str (S (List.replicate n z).flatten)) H) := by
  intro pins s σ H x y v u Q I rx ry h
  obtain ⟨z, n, rfl, rfl, hn, hz, q⟩ := h
  obtain ⟨t, rfl⟩ := rx
  obtain ⟨t', rfl⟩ := ry
  have hl : (List.replicate n z).flatten.length = n * z.length := by simp
  have hm : n * z.length ≤ 1000 * 1000 := Nat.mul_le_mul hn hz
  refine P.mul_str (by simp; omega) (fun h1 h2 => ?_) (fun h1 h2 => ?_) ?_
  · rw [S_len]
    have hn0 : (0 : Int) < n := by omega
    have h3 : (1000 : Int) ≤ (2 ^ 63 - 1) / (n : Int) := by
      refine (Int.le_ediv_iff_mul_le hn0).mpr ?_
      have : (1000 : Int) * n ≤ 1000 * 1000 := Int.mul_le_mul_of_nonneg_left (by omega) (by decide)
      omega
    omega
  · rw [S_len, Int.toNat_natCast, Nat.mul_comm]
    have : n * z.length ≤ sizeLine := by rw [sizeLine_eq]; omega
    unfold Builtin.Str.tooLong
    simp
    omega
  · by_cases h1 : (n : Int) < 1
    · rw [if_pos h1]
      have e : n = 0 := by omega
      subst e
      exact ⟨by decide, .str _, H, I.tok _, ⟨_, rfl⟩, q⟩
    · rw [if_neg h1]
      by_cases h2 : ((n : Int) == 1 || (S z).length == 0) = true
      · rw [if_pos h2]
        have e : (List.replicate n z).flatten = z := by
          rw [Bool.or_eq_true, beq_iff_eq, beq_iff_eq, S_len] at h2
          rcases h2 with h2 | h2
          · have : n = 1 := by omega
            subst this
            simp
          · rw [List.length_eq_zero_iff.mp h2]
            simp
        rw [e] at q
        exact ⟨.str _, H, I, ⟨_, rfl⟩, q⟩
      · rw [if_neg h2]
        have e : (⟨(List.replicate (n : Int).toNat (S z).cps).foldl (· ++ ·) #[]⟩ : Str) = S (List.replicate n z).flatten := by
          refine TL.ext_tl ?_
          show ((List.replicate (n : Int).toNat (S z).cps).foldl (· ++ ·) #[]).toList = _
          rw [Int.toNat_natCast, foldl_arr]
          rfl
        rw [e]
        exact ⟨by rw [S_len, hl, sizeLine_eq]; omega, .str _, H, I.tok _, ⟨_, rfl⟩, q⟩
/-- a % b, a // b of natural numbers -/
theorem fmodN (k n : Nat) : Int.fmod (k : Int) (n : Int) = ((k % n : Nat) : Int) := by
  rw [Int.fmod_eq_emod_of_nonneg _ (by omega)]
  rfl
theorem op_modZ : OpR X (binaryOp .Mod) (fun x y H Q => ∃ (k n : Nat), x = .int k ∧ y = .int n ∧ n ≠ 0 ∧ Q (.int ((k % n : Nat) : Int)) H) := by
  intro pins s σ H x y v u Q I rx ry h
  obtain ⟨k, n, e1, e2, h0, q⟩ := h
  refine op_modN pins s σ H x y v u Q I rx ry ⟨_, _, e1, e2, by omega, ?_⟩
  rw [← fmodN] at q
  exact q
theorem op_fdivZ : OpR X (binaryOp .FloorDiv) (fun x y H Q => ∃ (k n : Nat), x = .int k ∧ y = .int n ∧ n ≠ 0 ∧ n < 2 ^ 29 ∧ Q (.int ((k / n : Nat) : Int)) H) := by
  intro pins s σ H x y v u Q I rx ry h
  obtain ⟨k, n, e1, e2, h0, h1, q⟩ := h
  refine op_fdivN pins s σ H x y v u Q I rx ry ⟨_, _, e1, e2, ⟨by omega, by omega⟩, ?_⟩
  have : Int.fdiv (k : Int) (n : Int) = ((k / n : Nat) : Int) := by
    rw [Int.fdiv_eq_ediv_of_nonneg _ (by omega)]
    rfl
  rw [← this] at q
  exact q
theorem op_mulZ : OpR X (binaryOp .Mult) (fun x y H Q => ∃ (k n : Nat), x = .int k ∧ y = .int n ∧ k < 2 ^ 1000 ∧ n < 2 ^ 1000 ∧ Q (.int ((k * n : Nat) : Int)) H) := by
  intro pins s σ H x y v u Q I rx ry h
  obtain ⟨k, n, e1, e2, h0, h1, q⟩ := h
  refine op_mulW pins s σ H x y v u Q I rx ry ⟨_, _, e1, e2, wide_mul (a := 1000) (b := 1000) h0 h1 (by decide) (by decide) (by decide), ?_⟩
  rw [Int.natCast_mul] at q
  exact q
/-- len of a list that is tracked (it may stand in a comprehension) -/
theorem call_lenH : CallR X (.builtin "len") (fun xs H Q => ∃ (p : Addr) (ys : List V), xs = [.ref p] ∧ H p = some (.lst ys) ∧ Q (.int (ys.length : Nat)) H) := by
  intro pins s σ H xs us Q I r h
  obtain ⟨p, ys, e, hp, q⟩ := h
  exact call_len_seq pins s σ H xs us Q I r ⟨p, ys, e, .inl (.inl (.inl hp)), q⟩
end
end CK

set_option Elab.async false
set_option linter.all false
set_option maxRecDepth 100000
set_option maxHeartbeats 2000000
/-! any of a tuple of numbers -/
namespace CK
open PySem PySem.Spec PyProof.Rows L2 SX
theorem plain_ints : ∀ ns : List Int, PyData.plainAll (ns.map PyData.int) = true
  | [] => by simp [PyData.plainAll]
  | n :: ns => by
    rw [List.map_cons, PyData.plainAll, plain_ints ns]
    simp [PyData.plain]
theorem any_ints (ns : List Nat) : ((ns.map fun n : Nat => ((n : Nat) : Int)).map PyData.int).any PyData.truthy = ns.any fun x => decide (x ≠ 0) := by
  induction ns with
  | nil => rfl
  | cons n ns ih =>
    rw [List.map_cons, List.map_cons, List.any_cons, List.any_cons, ih]
    congr 1
    show ((n : Int) != 0) = decide (n ≠ 0)
    by_cases h : n = 0
    · subst h
      rfl
    · rw [decide_eq_true h, bne_iff_ne]
      omega
section
variable {X : Cx}
theorem cr_anyN (hc : X.calm = true) : CallR X (.builtin "any") (fun vs H Q => ∃ (a : Addr) (ns : List Nat), vs = [V.ref a] ∧ H a = some (.tup (ns.map fun n : Nat => V.int (n : Nat))) ∧ Q (.bl (ns.any fun x => decide (x ≠ 0))) H) := by
  intro pins s σ H vs us Q I r h
  obtain ⟨a, ns, rfl, ha, q⟩ := h
  obtain ⟨its, rv, hT, _⟩ := I.tuple (.inl (.inl ha))
  rw [Vals.ref1 r]
  have e : (ns.map fun n : Nat => V.int (n : Nat)) = (ns.map fun n : Nat => ((n : Nat) : Int)).map V.int := by
    rw [List.map_map]
    rfl
  rw [e] at rv
  obtain ⟨as, hr⟩ := Dp.readsAll I _ _ its (dpAll_ints _) rv
  refine PySem.W.any_tuple_data (I.ok.hd hc) hT (by rw [List.toList_toArray]; exact hr) (plain_ints _) (fun x hx => ?_) fun h' tk hk => ?_
  · obtain ⟨i, _, rfl⟩ := List.mem_map.mp hx
    trivial
  · rw [any_ints]
    exact ⟨.bl _, H, I.kept (t' := tk) hk, rfl, q⟩
end
end CK
namespace CK
open PySem PySem.Spec PyProof.Rows L2 SX
section
variable {X : Cx}
/-- a whole number and a Boolean -/
theorem op_addB : OpR X (binaryOp .Add) (fun x y H Q => ∃ (i : Int) (b : Bool), x = .int i ∧ y = .bl b ∧ Q (.int (i + if b = true then (1 : Int) else 0)) H) := by
  intro pins s σ H x y v u Q I rx ry h
  obtain ⟨i, b, rfl, rfl, q⟩ := h
  obtain ⟨t, rfl⟩ := rx
  obtain rfl : u = Value.bool b := ry
  exact add_int_bool ⟨.int _, H, I.tok _, ⟨_, rfl⟩, q⟩
end
end CK
namespace CK
open PySem PySem.Spec PyProof.Rows L2 SX
theorem vals_of_get : ∀ (vs : List V) (us : List Value), us.length = vs.length → (∀ (j : Nat) (v : V) (u : Value), vs[j]? = some v → us[j]? = some u → RelV v u) → Vals vs us
  | [], [], _, _ => .nil
  | [], _ :: _, h, _ => by simp at h
  | _ :: _, [], h, _ => by simp at h
  | v :: vs, u :: us, h, g => .cons (g 0 v u rfl rfl) (vals_of_get vs us (by simpa using h) fun j a b ha hb => g (j + 1) a b (by simpa using ha) (by simpa using hb))
section
variable {X : Cx}
/-- list(text): its letters -/
theorem call_listS (hc : X.calm = true) : CallR X (.type "list") (fun xs H Q => ∃ z : List Nat, xs = [.str (S z)] ∧ z.length ≤ 1000000 ∧ ∀ l, H l = none → Q (.ref l) (upd H l (.lst (z.map fun c => V.str (S [c]))))) := by
  intro pins s σ H xs us Q I r h
  obtain ⟨z, rfl, hz, q⟩ := h
  obtain ⟨u, rfl, rx⟩ := vals1 r
  obtain ⟨t, rfl⟩ := rx
  have sz : (S z).cps.size = z.length := S_len z
  refine call_list_str (I.ok.hd hc) (S z) t (fun h' tk acc' c' hk hS hacc => ?_) (by rw [sz, sizeLine_eq]; omega)
  refine ⟨.ref s.heap.objs.size, upd H s.heap.objs.size (.lst (z.map fun c => V.str (S [c]))), I.laid (t' := tk) hk (Nat.le_refl _) ?_, rfl, q _ (I.hok.fresh (Nat.le_refl _))⟩
  refine ⟨by rw [List.length_map, sizeLine_eq]; omega, acc'.toList, c', vals_of_get _ _ (by rw [List.length_map, Array.length_toList, hacc.1, sz]) fun j v u hv hu => ?_, by simpa using hS⟩
  obtain ⟨c, tt, hc', rfl⟩ := hacc.2 j u (by simpa using hu)
  rw [List.getElem?_map] at hv
  have e : z[j]? = some c := by
    have : (S z).cps[j]? = some c := hc'
    simpa [S] using this
  rw [e] at hv
  cases hv
  exact ⟨tt, rfl⟩
end
end CK
namespace CK
open PySem PySem.Spec PyProof.Rows L2 SX
section
variable {X : Cx} {o e : Expr} {es : List Expr} {to : TE} {t : TA} {name : Str} {apos cpos : Pos} {T id : String} {r : V → List V → Hp → VK → Prop}
/-- a built-in's method, where the written part is told apart (it may stand in a comprehension) -/
theorem pe_bmB {K : PySem.W.Frag} (hK : X.K = K) (pa : PlainAttrs T) (slot : Slot T name id) (hty : typeOf (.builtin id) = pure (.type "method_descriptor")) (hm : MtR X id r) (ho : PE X o to) (ha : PA X (e :: es) t)
    (hb : attributeBase o name X.env (eval o X.env) = eval o X.env := by rfl)
    (hf : ((backTo cpos (starEach (e :: es) X.env)).all (fun x => !x.1) && (backToKw cpos (keywordEach [] X.env)).all (fun x => x.1.isSome) && decide ((e :: es).length + ([] : List Keyword).length + (if ([] : List Keyword).isEmpty then 0 else 1) < 30)) = true := by rfl)
    (hl : (apos.endLine == cpos.line) = true := by rfl) (hs : starEach (e :: es) X.env = (false, eval e X.env) :: starEach es X.env := by rfl) (hp : (backTo cpos (starEach es X.env)).any (·.1) = false := by rfl) :
    PE X (.Call (.Attribute o name apos) (e :: es) [] cpos) (tBM K T r to t) := by
  subst hK
  exact pe_bm pa slot hty hm ho ha hb hf hl hs hp
end
end CK

set_option Elab.async false
set_option linter.all false
set_option maxRecDepth 100000
set_option maxHeartbeats 2000000
/-! any of a list of numbers -/
namespace CK
open PySem PySem.Spec PyProof.Rows L2 SX
section
variable {X : Cx}
theorem cr_anyL (hc : X.calm = true) : CallR X (.builtin "any") (fun vs H Q => ∃ (a : Addr) (ns : List Nat), vs = [V.ref a] ∧ H a = some (.lst (ns.map fun n : Nat => V.int (n : Nat))) ∧ Q (.bl (ns.any fun x => decide (x ≠ 0))) H) := by
  intro pins s σ H vs us Q I r h
  obtain ⟨a, ns, rfl, ha, q⟩ := h
  obtain ⟨its, rv, hT, _⟩ := I.list (.inl (.inl ha))
  rw [Vals.ref1 r]
  have e : (ns.map fun n : Nat => V.int (n : Nat)) = (ns.map fun n : Nat => ((n : Nat) : Int)).map V.int := by
    rw [List.map_map]
    rfl
  rw [e] at rv
  obtain ⟨as, hr⟩ := Dp.readsAll I _ _ its (dpAll_ints _) rv
  refine PySem.W.any_list_data (I.ok.hd hc) hT.isList (by rw [List.toList_toArray]; exact hr) (plain_ints _) (fun x hx => ?_) fun h' tk hk => ?_
  · obtain ⟨i, _, rfl⟩ := List.mem_map.mp hx
    trivial
  · rw [any_ints]
    exact ⟨.bl _, H, I.kept (t' := tk) hk, rfl, q⟩
/-- over a list, with the written part told apart (it may stand in a comprehension) -/
theorem pi_listK {K : PySem.W.Frag} (hK : X.K = K) {tg l : Expr} {tl : TE} (hl : PE X l tl) : PI X tg l (iList K tl) := by
  subst hK
  exact pi_list hl
end
end CK

set_option Elab.async false
set_option linter.all false
set_option maxRecDepth 100000
set_option maxHeartbeats 2000000
/-! defs that are called with no repr under way; repr of data -/
namespace CK
open PySem PySem.Spec PyProof.Rows L2
/-- what a def promises where no repr is under way -/
structure FnG (P : Program) (w : World) (K : PySem.W.Frag) (mg : Str → Option Value) (base : Heap) (k : Nat) (f : Addr) (fd : FuncData) (ps : List Str) (sp : Sp) : Prop where
  len : ∀ vs H Q E, sp vs H Q E → vs.length = ps.length
  go : ∀ (A : Around) (outer : List Env) (z : Shared) (H : Hp) (args : Args) (us : List Value) (vs : List V) (Q : VK) (E : XK), Room k A → A.guards = some [] → Env0 P w K mg base A outer z H → BindsTo z fd args (ps.zip us) →
    Vals vs us → sp vs H Q E → codeAny (model P w) A (.call (.ref f) args) (CR C8.CX0 outer P w H z Q E) z
theorem FnG.of {P : Program} {w : World} {K : PySem.W.Frag} {mg : Str → Option Value} {base : Heap} {k : Nat} {f : Addr} {fd : FuncData} {ps : List Str} {sp : Sp} (F : FnOk P w K mg base C8.CX0 k f fd ps sp) : FnG P w K mg base k f fd ps sp :=
  ⟨F.len, fun A outer z H args us vs Q E hr _ e0 hb r h => F.run A outer z H args us vs Q E hr e0 hb r h⟩
theorem fnG_of {P : Program} {w : World} {K : PySem.W.Frag} {mg : Str → Option Value} {base : Heap} {k : Nat} {f : Addr} {x : Str} {st : Stmt} {fd : FuncData} {N ps : List Str} {sp : Sp} (F : C8.Fun K x x st f fd) (S : FnScope N ps (C8.fnScope st))
    (len : ∀ vs H Q E, sp vs H Q E → vs.length = ps.length)
    (body : ∀ (cdv : Value) (A : Around) (outer : List Env) (z : Shared) (H : Hp) (vs : List V) (Q : VK) (E : XK), Room k (A.deeper (envOfC x (C8.fnScope st) z.heap.objs.size f cdv)) → A.guards = some [] → sp vs H Q E →
      ∃ t, PSs (cxOf C8.CX0 P w K mg base N x (C8.fnScope st) f cdv A outer z H E).nox (C8.fnBody st) t ∧ t { nx := fun _ H' => Q .non H', rt := Q } (start N vs) H) : FnG P w K mg base (k + 1) f fd ps sp := by
  obtain ⟨_, _, _, _, _, _, _, cdv, _, _, rfl, lk, hc⟩ := F.ex
  refine ⟨len, fun A outer z H args us vs Q E room gd en bnd va want => ?_⟩
  have ln := len _ _ _ _ want
  have up : ∀ b o, base.get? b = some o → z.heap.get? b = some o := fun b o e => (en.bs b o e).1
  have inK : K.In z.heap := en.mod.kin.keeps up
  have kinds : ∀ y ∈ ps.zip us, (C8.fnScope st).names.lookup y.1 = some .local ∨ ((C8.fnScope st).names.lookup y.1 = some .cell ∧ ((cellsFrom (z.heap.objs.size + 1) (C8.fnScope st).names []).lookup y.1).isSome = true) := by
    intro y hy
    have := S.par y.1 (List.of_mem_zip (a := y.1) (b := y.2) hy).1
    cases this with
    | inl a => exact .inl a
    | inr a => exact .inr ⟨a, PySem.W.cellsFrom_some _ _ _ (.inl a)⟩
  refine codeAny_call_function room.depth (inK _ _ lk) rfl S.co S.gen rfl (PySem.W.codeRec_of inK hc) (bnd _ _ _ _ (wpAny_newFunctionEnv_cells S.kind kinds fun env he z1 call => ?_))
  subst he
  refine ⟨(en.mod.nolimit.keeps up).keeps call.toInCall.keep, codeAny_func ?_⟩
  obtain ⟨t, ht, ok⟩ := body cdv A outer z H vs Q E (room.deeper _) gd want
  refine wpAny_mono (ht.nox.run [] z1 (start N vs) H _ (inv_start S room.hd en ln va call) ok) (fun fl z' got => ?_) fun e z' got => got
  have last : ∀ {σ' : L2.St} {H' : Hp} {v : V} {u : Value}, Inv (cxOf C8.CX0 P w K mg base N x (C8.fnScope st) f cdv A outer z H E) [] σ' H' z' → RelV v u → Q v H' → CE outer P w H z Q u z' :=
    fun {_ H' v _} J a b => ⟨v, H', J.os, J.bare, J.base, J.hok, a, b⟩
  cases fl with
  | ret u =>
    obtain ⟨v, _, H', J, a, b⟩ := got
    exact last J a b
  | next =>
    obtain ⟨_, H', J, b⟩ := got
    exact last (v := V.non) (u := Value.none) J rfl b
  | brk => exact got.choose_spec.choose_spec.2.elim
  | cont => exact got.choose_spec.choose_spec.2.elim
/-- a def by its name -/
structure CalG (P : Program) (w : World) (K : PySem.W.Frag) (mg : Str → Option Value) (base : Heap) (k : Nat) (x : Str) (sp : Sp) : Prop where
  ex : ∃ (f : Addr) (fd : FuncData) (ps : List Str), FnG P w K mg base k f fd ps sp ∧ mg x = some (.ref f) ∧ PySem.W.keepIn K (.ref f) = true ∧ Binds K fd ps []
theorem calG {P : Program} {w : World} {K : PySem.W.Frag} {mg : Str → Option Value} {base : Heap} {x : Str} {st : Stmt} {N ps : List Str} {k : Nat} {sp : Sp} (D : DefF K mg x st ps) (S : FnScope N ps (C8.fnScope st))
    (len : ∀ vs H Q E, sp vs H Q E → vs.length = ps.length)
    (body : ∀ (f : Addr) (cdv : Value) (A : Around) (outer : List Env) (z : Shared) (H : Hp) (vs : List V) (Q : VK) (E : XK), Room k (A.deeper (envOfC x (C8.fnScope st) z.heap.objs.size f cdv)) → A.guards = some [] → sp vs H Q E →
      ∃ t, PSs (cxOf C8.CX0 P w K mg base N x (C8.fnScope st) f cdv A outer z H E).nox (C8.fnBody st) t ∧ t { nx := fun _ H' => Q .non H', rt := Q } (start N vs) H) : CalG P w K mg base (k + 1) x sp := by
  obtain ⟨f, fd, F, b⟩ := D.ex
  exact ⟨f, fd, ps, fnG_of F.fn S len (body f), F.mgf, F.kp, .all b⟩
section
variable {X : Cx} {k j : Nat} {x : Str} {sp : Sp} {p pos : Pos} {e : Expr} {es : List Expr} {t : TA}
theorem run_fnG {pins : List (Addr × Obj)} {σ : L2.St} {H : Hp} {z : Shared} {Q : VK} {us : List Value} {vs : List V} {f : Addr} {fd : FuncData} {ps : List Str} (F : FnG X.prog X.w X.K X.mg X.base k f fd ps sp) (room : Room k X.A) (gd : X.A.guards = some [])
    (b : Binds X.K fd ps []) (I : Inv X pins σ H z) (r : Vals vs us) (h : sp (vs ++ []) H Q E0) : wpAny (model X.prog X.w) X.A (call (.ref f) us) (EP X pins σ Q) X.xe z := by
  rw [List.append_nil] at h
  have ll : (us ++ []).length = ps.length := by
    rw [List.append_nil, ← r.length]
    exact F.len _ _ _ _ h
  have bb := b z us I.kIn ll
  rw [List.append_nil] at bb
  refine wpAny_call (codeAny_mono (F.go X.A X.stack z H ⟨us, []⟩ us vs Q E0 room gd I.env0 bb r h) fun res z' got => ?_)
  match res, got with
  | .ok (.ret u), got => exact I.after got
  | .error e, got => exact pass0 pins σ H z e z' I got
theorem pe_cG (c : CalG X.prog X.w X.K X.mg X.base k x sp) (hr : Room j X.A) (gd : X.A.guards = some []) (hk : k ≤ j) (hg : Gl X x) (ha : PA X (e :: es) t)
    (hdb : (x == ("__debug__" : Str)) = false := by decide) (he : starEach (e :: es) X.env = (false, eval e X.env) :: starEach es X.env := by rfl) (hpl : (backTo pos (starEach es X.env)).any (·.1) = false := by rfl) :
    PE X (.Call (.Name x p) (e :: es) [] pos) (tCall sp [] E0 t) := by
  obtain ⟨f, fd, ps, F, hm, kp, b⟩ := c.ex
  refine ⟨fun pins s σ H Q I h => wpAny_Call_Name_kw (ld_glob I hg hm ?_ hdb)⟩
  exact PySem.W.callWith_K (h₀ := X.base) I.ok.mod.kin kp (thn (ha.run pos pins s σ H _ I h) fun us s1 ⟨vs, H1, I1, r, q⟩ => ⟨I1.kIn, run_fnG F (hr.mono hk) gd b I1 r q⟩) he hpl
theorem pe_cG0 (c : CalG X.prog X.w X.K X.mg X.base k x sp) (hr : Room j X.A) (gd : X.A.guards = some []) (hk : k ≤ j) (hg : Gl X x)
    (hdb : (x == ("__debug__" : Str)) = false := by decide) :
    PE X (.Call (.Name x p) [] [] pos) (tCall sp [] E0 tNil) := by
  obtain ⟨f, fd, ps, F, hm, kp, b⟩ := c.ex
  refine ⟨fun pins s σ H Q I h => wpAny_Call_Name_kw (ld_glob I hg hm ?_ hdb)⟩
  exact PySem.W.callWith_K0 I.kIn kp (run_fnG (us := []) F (hr.mono hk) gd b I .nil h)
/-- repr of data -/
theorem call_repr (hr : Room j X.A) (gd : X.A.guards = some []) : CallR X (.builtin "repr") (fun xs H Q => ∃ (v : V) (d : PyData), xs = [v] ∧ Dp X.K H v d ∧ d.showable = true ∧ d.hasDict = false ∧ d.depth ≤ 60 ∧ d.shown.length ≤ sizeLine ∧ Q (.str d.shown) H) := by
  intro pins s σ H xs us Q I r h
  obtain ⟨v, d, rfl, dp, hs, hd, hdep, hz, q⟩ := h
  obtain ⟨u, rfl, rx⟩ := vals1 r
  obtain ⟨as, rd⟩ := Dp.reads I d v u dp rx
  have hu := hr.units
  have fin : ∀ (a : Addr) (d : PyData), Reads s.heap (.ref a) d as → d.showable = true → d.hasDict = false → d.depth ≤ 60 → d.shown.length ≤ sizeLine → Q (.str d.shown) H →
      wpAny (model X.prog X.w) X.A (call (.builtin "repr") [.ref a]) (EP X pins σ Q) X.xe s := fun a d rd hs hd hdep hz q =>
    repr_of_reads' rd hs (PyData.noDict_hsm hd) gd (by omega) (fun _ _ e => e) (fun h' u tk hk => ⟨.str _, H, I.kept (t' := tk) hk, ⟨u, rfl⟩, q⟩) hz
  cases rd with
  | none => exact PySem.P.repr_of_none ⟨.str _, H, I.tok _, ⟨_, rfl⟩, by simpa only [PyData.shown] using q⟩
  | bool b => exact PySem.P.repr_of_bool ⟨.str _, H, I.tok _, ⟨_, rfl⟩, by simpa only [PyData.shown] using q⟩
  | int i t => exact PySem.P.repr_of_int (by simpa [PyData.showable] using hs) ⟨.str _, H, I.tok _, ⟨_, rfl⟩, by simpa only [PyData.shown] using q⟩
  | str y t => exact PySem.P.repr_of_str ⟨.str _, H, I.tok _, ⟨_, rfl⟩, by simpa only [PyData.shown] using q⟩ (by simpa only [PyData.shown] using hz)
  | list a b c e => exact fin _ _ (.list a b c e) hs hd hdep hz q
  | tuple a b c e => exact fin _ _ (.tuple a b c e) hs hd hdep hz q
  | dict a b c e g => exact fin _ _ (.dict a b c e g) hs hd hdep hz q
end
end CK

set_option Elab.async false
set_option linter.all false
set_option maxRecDepth 100000
set_option maxHeartbeats 2000000
/-! comprehensions with a test; equality of data made of whole numbers -/
namespace CK
open PySem PySem.Spec PyProof.Rows L2
/-- n turns, each kept if b i, giving f i, leaving all that was tracked -/
theorem lc_filtW {J : It} {n : Nat} {G : Hp → Prop} {Y : Nat → Hp → V → Hp → Prop} (w : Walk J n G Y) {g : TG} {tt : TT} {te : TE} {vs : List Nat} {σ : L2.St} {H1 : Hp} {D : Addr} {Qd : Hp → Prop} (b : Nat → Bool) (f : Nat → V) (hn : n < sizeLine)
    (hG : ∀ H, Same H1 H → G H)
    (hs : ∀ (i : Nat) (x : V) (H H' : Hp) (R : VK) (R0 : Hp → Prop), i < n → Same H1 H → Y i H x H' → (b i = true → ∀ H'', Same H H'' → R (f i) H'') → (b i = false → ∀ H'', Same H H'' → R0 H'') →
      g x (wipe σ vs) H' fun σ2 H2 => wipe σ2 vs = wipe σ vs ∧ tt σ2 H2 fun c H3 => if c = true then te σ2 H3 R else R0 H3)
    (hD : H1 D = none) (hd : ∀ H : Hp, Same H1 H → H D = some (.lst (((List.range n).filter b).map f)) → Qd H) :
    ∃ W : Nat → Nat → Hp → Prop, (∃ m, W 0 m (upd H1 D (.lst []))) ∧ ∀ i m H, W i m H →
      (J.stop i H ∧ Qd H) ∨ (J.go i H ∧ ∃ Nx : Hp → Prop, (∀ H', Nx H' → ∃ m', m' < m ∧ W (i + 1) m' H') ∧ ∀ x H', J.yld i H x H' → g x (wipe σ vs) H' fun σ2 H2 => wipe σ2 vs = wipe σ vs ∧ tt σ2 H2 fun b H3 =>
        if b = true then te σ2 H3 fun y H4 => ∃ acc, H4 D = some (.lst acc) ∧ acc.length < sizeLine ∧ Nx (upd H4 D (.lst (acc ++ [y]))) else Nx H3) := by
  refine lc_it w (fun i H => Same H1 H ∧ H D = some (.lst (((List.range i).filter b).map f)) ∧ i ≤ n) ⟨sameNew hD, upd_same, Nat.zero_le _⟩ (fun i H _ p => hG H p.1) (fun i x H H' hi p y => ?_) fun H p => hd H p.1 p.2.1
  refine hs i x H H' _ _ hi p.1 y (fun hb H'' s => ?_) fun hb H'' s => ?_
  · refine ⟨_, s D _ p.2.1, ?_, same_upd2 hD (p.1.trans s), ?_, hi⟩
    · have := List.length_filter_le b (List.range i)
      rw [List.length_range] at this
      rw [List.length_map]
      omega
    · rw [upd_same, List.range_succ, List.filter_append, List.map_append, List.filter_cons_of_pos hb]
      rfl
  · refine ⟨p.1.trans s, ?_, hi⟩
    rw [s D _ p.2.1, List.range_succ, List.filter_append, List.filter_cons_of_neg (by rw [hb]; exact Bool.false_ne_true), List.filter_nil, List.append_nil]
theorem filt_nil (b : Nat → Bool) (f : Nat → V) (n : Nat) : ((List.range n).filter b).map f = [] ↔ ∀ i, i < n → b i = false := by
  rw [List.map_eq_nil_iff, List.filter_eq_nil_iff]
  constructor
  · intro h i hi
    have := h i (List.mem_range.mpr hi)
    simpa using this
  · intro h i hi
    rw [h i (List.mem_range.mp hi)]
    exact Bool.false_ne_true
/-- over zip -/
theorem lcZ_filt {K : PySem.W.Frag} {k k' : Kd} {a c : Addr} {xs ys : List V} {i1 i2 : Nat} {tt : TT} {te : TE} {vs : List Nat} {σ : L2.St} {H1 : Hp} {D : Addr} {Qd : Hp → Prop} (b : Nat → Bool) (f : Nat → V) (hl : xs.length = ys.length) (hn : xs.length < sizeLine)
    (ha : ∀ H, Same H1 H → SqB K k H a xs ∧ SqB K k' H c ys)
    (hs : ∀ (i : Nat) (x y : V) (H : Hp) (R : VK) (R0 : Hp → Prop), xs[i]? = some x → ys[i]? = some y → Same H1 H → (b i = true → ∀ H', Same H H' → R (f i) H') → (b i = false → ∀ H', Same H H' → R0 H') →
      wipe (((wipe σ vs).set i1 (some x)).set i2 (some y)) vs = wipe σ vs ∧ tt (((wipe σ vs).set i1 (some x)).set i2 (some y)) H fun c H3 => if c = true then te (((wipe σ vs).set i1 (some x)).set i2 (some y)) H3 R else R0 H3)
    (hD : H1 D = none) (hd : ∀ H : Hp, Same H1 H → H D = some (.lst (((List.range xs.length).filter b).map f)) → Qd H) :
    ∃ W : Nat → Nat → Hp → Prop, (∃ m, W 0 m (upd H1 D (.lst []))) ∧ ∀ i m H, W i m H →
      ((ItB K k k' a c).stop i H ∧ Qd H) ∨ ((ItB K k k' a c).go i H ∧ ∃ Nx : Hp → Prop, (∀ H', Nx H' → ∃ m', m' < m ∧ W (i + 1) m' H') ∧ ∀ x H', (ItB K k k' a c).yld i H x H' → gTup K 2 (gCons (gName i1) (gCons (gName i2) gNil)) x (wipe σ vs) H' fun σ2 H2 => wipe σ2 vs = wipe σ vs ∧ tt σ2 H2 fun b H3 =>
        if b = true then te σ2 H3 fun y H4 => ∃ acc, H4 D = some (.lst acc) ∧ acc.length < sizeLine ∧ Nx (upd H4 D (.lst (acc ++ [y]))) else Nx H3) := by
  refine lc_filtW (walkB (K := K) (k := k) (k' := k') (a := a) (b := c) hl) b f hn ha (fun i v H H' R R0 hi s y q q0 => ?_) hD hd
  obtain ⟨T, x, y, rfl, hT, rfl, hx, hy⟩ := y
  have hx : xs[i]? = some x := hx
  have hy : ys[i]? = some y := hy
  have st : Same H (upd H T (.tup [x, y])) := sameNew hT
  exact ⟨T, [x, y], rfl, .inl (.inl upd_same), rfl, x, [y], rfl, y, [], rfl, rfl, hs i x y _ R R0 hx hy (s.trans st) (fun hb H'' s' => q hb H'' (st.trans s')) fun hb H'' s' => q0 hb H'' (st.trans s')⟩
/-- over a list -/
theorem lcL_filt {K : PySem.W.Frag} {a : Addr} {xs : List V} {j : Nat} {tt : TT} {te : TE} {vs : List Nat} {σ : L2.St} {H1 : Hp} {D : Addr} {Qd : Hp → Prop} (b : Nat → Bool) (f : Nat → V) (ha : ∀ H, Same H1 H → SqL K H a xs) (hn : xs.length < sizeLine)
    (hs : ∀ (i : Nat) (x : V) (H : Hp) (R : VK) (R0 : Hp → Prop), xs[i]? = some x → Same H1 H → (b i = true → ∀ H', Same H H' → R (f i) H') → (b i = false → ∀ H', Same H H' → R0 H') →
      wipe ((wipe σ vs).set j (some x)) vs = wipe σ vs ∧ tt ((wipe σ vs).set j (some x)) H fun c H3 => if c = true then te ((wipe σ vs).set j (some x)) H3 R else R0 H3)
    (hD : H1 D = none) (hd : ∀ H : Hp, Same H1 H → H D = some (.lst (((List.range xs.length).filter b).map f)) → Qd H) :
    ∃ W : Nat → Nat → Hp → Prop, (∃ m, W 0 m (upd H1 D (.lst []))) ∧ ∀ i m H, W i m H →
      ((Itl K a).stop i H ∧ Qd H) ∨ ((Itl K a).go i H ∧ ∃ Nx : Hp → Prop, (∀ H', Nx H' → ∃ m', m' < m ∧ W (i + 1) m' H') ∧ ∀ x H', (Itl K a).yld i H x H' → gName j x (wipe σ vs) H' fun σ2 H2 => wipe σ2 vs = wipe σ vs ∧ tt σ2 H2 fun b H3 =>
        if b = true then te σ2 H3 fun y H4 => ∃ acc, H4 D = some (.lst acc) ∧ acc.length < sizeLine ∧ Nx (upd H4 D (.lst (acc ++ [y]))) else Nx H3) := by
  refine lc_filtW (walk_list (K := K) (a := a) (xs := xs)) b f hn ha (fun i v H H' R R0 hi s y q q0 => ?_) hD hd
  obtain ⟨rfl, hx⟩ := y
  exact hs i v H' R R0 hx s q q0
/-- over a tuple -/
theorem lcT_filt {K : PySem.W.Frag} {a : Addr} {xs : List V} {j : Nat} {tt : TT} {te : TE} {vs : List Nat} {σ : L2.St} {H1 : Hp} {D : Addr} {Qd : Hp → Prop} (b : Nat → Bool) (f : Nat → V) (ha : ∀ H, Same H1 H → SqT K H a xs) (hn : xs.length < sizeLine)
    (hs : ∀ (i : Nat) (x : V) (H : Hp) (R : VK) (R0 : Hp → Prop), xs[i]? = some x → Same H1 H → (b i = true → ∀ H', Same H H' → R (f i) H') → (b i = false → ∀ H', Same H H' → R0 H') →
      wipe ((wipe σ vs).set j (some x)) vs = wipe σ vs ∧ tt ((wipe σ vs).set j (some x)) H fun c H3 => if c = true then te ((wipe σ vs).set j (some x)) H3 R else R0 H3)
    (hD : H1 D = none) (hd : ∀ H : Hp, Same H1 H → H D = some (.lst (((List.range xs.length).filter b).map f)) → Qd H) :
    ∃ W : Nat → Nat → Hp → Prop, (∃ m, W 0 m (upd H1 D (.lst []))) ∧ ∀ i m H, W i m H →
      ((Itt K a).stop i H ∧ Qd H) ∨ ((Itt K a).go i H ∧ ∃ Nx : Hp → Prop, (∀ H', Nx H' → ∃ m', m' < m ∧ W (i + 1) m' H') ∧ ∀ x H', (Itt K a).yld i H x H' → gName j x (wipe σ vs) H' fun σ2 H2 => wipe σ2 vs = wipe σ vs ∧ tt σ2 H2 fun b H3 =>
        if b = true then te σ2 H3 fun y H4 => ∃ acc, H4 D = some (.lst acc) ∧ acc.length < sizeLine ∧ Nx (upd H4 D (.lst (acc ++ [y]))) else Nx H3) := by
  refine lc_filtW (walk_tup (K := K) (a := a) (xs := xs)) b f hn ha (fun i v H H' R R0 hi s y q q0 => ?_) hD hd
  obtain ⟨rfl, hx⟩ := y
  exact hs i v H' R R0 hx s q q0
/-- a tuple of the module's own -/
theorem tupF {K : PySem.W.Frag} {h : Heap} {mg : Str → Option Value} {x : Str} {f : Addr} {o : Obj} {its : Array Value} {n : Nat} {xs : List V} (X : K.In h) (G : h.Ns mainGlobals mg) (a : PySem.W.nsIn K mainGlobals x = some (some (.ref f))) (l : K.lookup f = some o)
    (hc : o.cls = .type "tuple") (hd : o.data = .seq its n) (hs : its.size ≤ sizeLine) (hv : Vals xs its.toList) : ∃ a, mg x = some (.ref a) ∧ ∀ H, SqT K H a xs :=
  ⟨f, PySem.W.mg_of X G a, fun H => .inr ⟨o, its, n, l, hc, hd, hs, hv⟩⟩
abbrev TupF (K : PySem.W.Frag) (mg : Str → Option Value) (x : Str) (xs : List V) : Prop := ∃ a, mg x = some (.ref a) ∧ ∀ H, SqT K H a xs
theorem with_tup {K : PySem.W.Frag} {h : Heap} {mg : Str → Option Value} (_ : K.In h) (x : Str) (xs : List V) {R : Prop} (d : TupF K mg x xs) (r : TupF K mg x xs → R) : R := r d
/-! data of whole numbers -/
theorem eqvAll_ints : ∀ f g : List Int, PyData.eqvAll (f.map PyData.int) (g.map PyData.int) = decide (f = g)
  | [], [] => by simp [PyData.eqvAll]
  | [], _ :: _ => by simp [PyData.eqvAll]
  | _ :: _, [] => by simp [PyData.eqvAll]
  | x :: f, y :: g => by
    rw [List.map_cons, List.map_cons, PyData.eqvAll, eqvAll_ints f g]
    simp [PyData.eqv, Bool.beq_eq_decide_eq]
theorem eqv_dI (f g : List Int) : PyData.eqv (dI f) (dI g) = decide (f = g) := by
  unfold dI
  simp only [PyData.eqv, eqvAll_ints]
def dLI (ns : List Int) : PyData := .list (ns.map PyData.int)
theorem eqv_dLI (f g : List Int) : PyData.eqv (dLI f) (dLI g) = decide (f = g) := by
  unfold dLI
  simp only [PyData.eqv, eqvAll_ints]
theorem shaped_dLI (ns : List Int) : SeqAt.shaped (dLI ns) = true := by
  unfold SeqAt.shaped dLI
  rw [PyData.canLay0, lay_ints, PyData.depth, deep_ints]
  decide
theorem dp_lints {K : PySem.W.Frag} {H : Hp} {a : Addr} {ns : List Int} (h : H a = some (.lst (ns.map V.int))) : Dp K H (.ref a) (dLI ns) := .lst (.inl (.inl h)) (dpAll_ints ns)
/-! repr of whole numbers -/
theorem shown_ints : ∀ ns : List Int, (∀ n ∈ ns, n.natAbs.log2 < 1920) → PyData.showableAll (ns.map PyData.int) = true
  | [], _ => by simp [PyData.showableAll]
  | n :: ns, h => by
    rw [List.map_cons, PyData.showableAll, shown_ints ns fun z hz => h z (List.mem_cons_of_mem _ hz)]
    simp [PyData.showable, h n List.mem_cons_self]
theorem noDict_ints : ∀ ns : List Int, PyData.hasDictAll (ns.map PyData.int) = false
  | [] => by simp [PyData.hasDictAll]
  | n :: ns => by
    rw [List.map_cons, PyData.hasDictAll, noDict_ints ns]
    simp [PyData.hasDict]
theorem piled_ints : ∀ ns : List Int, (∀ n ∈ ns, n.natAbs.log2 < 1920) → piled (PyData.shownAll (ns.map PyData.int)) ≤ ns.length * 1923
  | [], _ => Nat.zero_le _
  | n :: ns, h => by
    have a1 := int_text_length_le (a := n) (k := 1920) (by omega) (h n List.mem_cons_self)
    have a2 := piled_ints ns fun z hz => h z (List.mem_cons_of_mem _ hz)
    have a3 : ((toString n : Str)).length = (toString n).length := PySem.ofString_length _
    have e : PyData.shown (.int n) = (toString n : Str) := by simp only [PyData.shown]
    rw [List.map_cons, PyData.shownAll, piled_cons, List.length_cons, e]
    omega
theorem show_dI {ns : List Int} (h : ∀ n ∈ ns, n.natAbs.log2 < 1920) (hl : ns.length ≤ 100) : (dI ns).showable = true ∧ (dI ns).hasDict = false ∧ (dI ns).depth ≤ 60 ∧ (dI ns).shown.length ≤ sizeLine := by
  refine ⟨?_, ?_, by rw [deep_dI]; decide, ?_⟩
  · unfold dI
    rw [PyData.showable]
    exact shown_ints ns h
  · unfold dI
    rw [PyData.hasDict]
    exact noDict_ints ns
  · unfold dI
    rw [PyData.shown]
    have := fmt_text (PyData.shownAll (ns.map PyData.int))
    have := piled_ints ns h
    have : ns.length * 1923 ≤ 100 * 1923 := Nat.mul_le_mul_right _ hl
    rw [sizeLine_eq]
    omega
theorem log_lt {n : Int} (h : n.natAbs < 2 ^ 1900) : n.natAbs.log2 < 1920 := by
  by_cases z : n.natAbs = 0
  · rw [z]
    decide
  · have := (Nat.log2_lt z).mpr h
    omega
end CK

set_option Elab.async false
set_option linter.all false
set_option maxRecDepth 100000
set_option maxHeartbeats 2000000
/-! statements in order, tests that may end the call -/
namespace CK
open PySem PySem.Spec PyProof.Rows L2
theorem seq_cut {t u : TS} {D : Ends} {σ : L2.St} {H : Hp} (Mid : L2.St → Hp → Prop) (h1 : ∀ K : L2.St → Hp → Prop, (∀ σ' H', Mid σ' H' → K σ' H') → t { D with nx := K } σ H) (h2 : ∀ σ' H', Mid σ' H' → u D σ' H') : tSeq t u D σ H := h1 _ h2
/-- a test whose answer is b: what is within, and what follows -/
theorem if_dec {c : TT} {t u : TS} {D : Ends} {σ : L2.St} {H : Hp} (b : Bool) (h : ∀ R : Bool → Hp → Prop, (∀ H', Same H H' → R b H') → c σ H R)
    (yes : b = true → ∀ H', Same H H' → t { D with nx := fun σ' H'' => u D σ' H'' } σ H') (no : b = false → ∀ H', Same H H' → u D σ H') : tSeq (tIfS c t tNext) u D σ H :=
  h _ fun H' s => by
    cases b with
    | true => exact iteT (yes rfl H' s)
    | false => exact iteF (no rfl H' s)
/-- the last test of a block -/
theorem if_end {c : TT} {t u : TS} {D : Ends} {σ : L2.St} {H : Hp} (b : Bool) (h : ∀ R : Bool → Hp → Prop, (∀ H', Same H H' → R b H') → c σ H R)
    (yes : b = true → ∀ H', Same H H' → t D σ H') (no : b = false → ∀ H', Same H H' → u D σ H') : tIfS c t u D σ H :=
  h _ fun H' s => by
    cases b with
    | true => exact iteT (yes rfl H' s)
    | false => exact iteF (no rfl H' s)
theorem if_not {c : TT} {t u : TS} {D : Ends} {σ : L2.St} {H : Hp} (h : ∀ R : Bool → Hp → Prop, (∀ H', Same H H' → R false H') → c σ H R) (r : ∀ H', Same H H' → u D σ H') : tSeq (tIfS c t tNext) u D σ H :=
  h _ fun H' s => iteF (r H' s)
theorem yes_if {σ : L2.St} {H : Hp} {A B : Hp → Prop} (h : A H) : tYes σ H fun b H3 => if b = true then A H3 else B H3 := by
  show (if true = true then A H else B H)
  exact if_pos rfl ▸ h
end CK

set_option Elab.async false
set_option linter.all false
set_option maxRecDepth 100000
set_option maxHeartbeats 2000000
/-! sum of a tuple of numbers -/
namespace CK
open PySem PySem.Spec PyProof.Rows L2 SX
section
variable {prog : Program} {w : World} {A : Around} {E : Value → Shared → Prop} {s : Shared} {l : Addr} {xs : Array (Int × Tok)}
theorem sum_tupG {Q : Value → Shared → Prop} (hh : A.handled = none) (hl : s.heap.IsTuple l (intItems xs))
    (h : ∀ h' tk t', (∀ b o, s.heap.get? b = some o → h'.get? b = some o) → Q (.int (preSum (numAt xs) xs.size) t') { s with heap := h', toks := tk }) :
    wpAny (model prog w) A (call (.builtin "sum") [.ref l]) Q E s := by
  have hlt : l < s.heap.objs.size := by obtain ⟨_, e, _⟩ := hl; exact Heap.lt_size e
  refine call_sum_walkG (wpAny_pyIter_tuple hl ?_)
  refine ⟨_, _, _, _, _, _, numAt xs, rfl, Walks.tuple (A := A.in1) hh _ l (Nat.ne_of_lt hlt) (intItems xs), ⟨⟨_, Heap.get?_push_size _ rfl, rfl, rfl⟩, hl.push _⟩, fun b hb => ?_, (fun _ _ => intItems_at), fun h' tk t' hk => ?_⟩
  · show b < (s.heap.push _).objs.size
    rw [Heap.size_push]
    rcases List.mem_cons.mp hb with rfl | hb
    · exact Nat.lt_succ_self _
    · rcases List.mem_cons.mp hb with rfl | hb
      · exact Nat.lt_succ_of_lt hlt
      · cases hb
  · have := h h' tk t' fun b o e => by
      refine hk b o (fun hm => ?_) (Heap.get?_push_of_some _ e)
      have := List.mem_singleton.mp hm
      have hb := Heap.lt_size e
      rw [this] at hb
      exact absurd hb (Nat.lt_irrefl _)
    simpa [intItems] using this
end
section
variable {X : Cx}
theorem cr_sumT (hc : X.calm = true) : CallR X (.builtin "sum") (fun vs H Q => ∃ (a : Addr) (ns : List Int), vs = [V.ref a] ∧ H a = some (.tup (ns.map V.int)) ∧ Q (.int ns.sum) H) := by
  intro pins s σ H vs us Q I r h
  obtain ⟨a, ns, rfl, ha, q⟩ := h
  obtain ⟨its, rv, hl, _⟩ := I.tuple (.inl (.inl ha))
  rw [Vals.ref1 r]
  have hi := rv.ints
  obtain ⟨xs, e⟩ := hi.allInts.items
  have hn : numsOf (intItems xs).toList = ns := by rw [← e]; exact hi.numsOf
  rw [nums_intItems] at hn
  have hl' : s.heap.IsTuple a (intItems xs) := by rw [← e]; exact hl
  refine sum_tupG (I.ok.hd hc) hl' fun h' tk t' hk => ?_
  have es : preSum (numAt xs) xs.size = ns.sum := by rw [preSum_eq, List.take_of_length_le (by simp), hn]
  rw [es]
  exact ⟨.int _, H, I.kept (t' := tk) hk, ⟨_, rfl⟩, q⟩
end
end CK

set_option Elab.async false
set_option linter.all false
set_option maxRecDepth 100000
/-! a comprehension of two `for`: over a list that the block leaves as it is, within it over a range -/
namespace CK
open PySem PySem.Spec PyProof.Rows L2
/-- what one turn of the outer `for` asks, with Nx behind it -/
abbrev Turn2 (g : TG) (tt : TT) (wi1 : TI) (g1 : TG) (tt1 : TT) (te : TE) (vs vs1 : List Nat) (σ : L2.St) (D : Addr) (x : V) (H' : Hp) (Nx : Hp → Prop) : Prop :=
  g x (wipe σ vs) H' fun σ2 H2 => wipe σ2 vs = wipe σ vs ∧ tt σ2 H2 fun b H3 =>
    if b = true then wi1 σ2 H3 fun J1 H4 => ∃ W1 : Nat → Nat → Hp → Prop, (∃ m, W1 0 m H4) ∧ ∀ j k H, W1 j k H →
      (J1.stop j H ∧ Nx H) ∨ (J1.go j H ∧ ∃ Nx1 : Hp → Prop, (∀ H', Nx1 H' → ∃ k', k' < k ∧ W1 (j + 1) k' H') ∧ ∀ x H', J1.yld j H x H' → g1 x (wipe σ2 vs1) H' fun σ3 H5 => wipe σ3 vs1 = wipe σ2 vs1 ∧ tt1 σ3 H5 fun b H6 =>
        if b = true then te σ3 H6 fun y H7 => ∃ acc, H7 D = some (.lst acc) ∧ acc.length < sizeLine ∧ Nx1 (L2.upd H7 D (.lst (acc ++ [y]))) else Nx1 H6)
    else Nx H3
theorem lc2_list {K : PySem.W.Frag} {a : Addr} {xs : List V} {g : TG} {tt : TT} {wi1 : TI} {g1 : TG} {tt1 : TT} {te : TE} {vs vs1 : List Nat} {σ : L2.St} {H1 : Hp} {D : Addr} {Qd : Hp → Prop} (Pv : Nat → Hp → Prop) (h0 : Pv 0 (L2.upd H1 D (.lst []))) (hl : ∀ i H, i ≤ xs.length → Pv i H → SqL K H a xs)
    (hs : ∀ i x H, xs[i]? = some x → Pv i H → Turn2 g tt wi1 g1 tt1 te vs vs1 σ D x H (Pv (i + 1))) (hd : ∀ H, Pv xs.length H → Qd H) :
    ∃ W : Nat → Nat → Hp → Prop, (∃ m, W 0 m (L2.upd H1 D (.lst []))) ∧ ∀ i m H, W i m H →
      ((Itl K a).stop i H ∧ Qd H) ∨ ((Itl K a).go i H ∧ ∃ Nx : Hp → Prop, (∀ H', Nx H' → ∃ m', m' < m ∧ W (i + 1) m' H') ∧ ∀ x H', (Itl K a).yld i H x H' → Turn2 g tt wi1 g1 tt1 te vs vs1 σ D x H' Nx) := by
  refine ⟨fun i m H => m = xs.length - i ∧ i ≤ xs.length ∧ Pv i H, ⟨xs.length, by simp, Nat.zero_le _, h0⟩, ?_⟩
  rintro i m H ⟨rfl, hi, p⟩
  have q := hl i H hi p
  by_cases hlt : i < xs.length
  · refine .inr ⟨⟨xs, xs[i], q, by simp [hlt]⟩, Pv (i + 1), fun H' p' => ⟨xs.length - (i + 1), by omega, rfl, hlt, p'⟩, fun x H' y => ?_⟩
    obtain ⟨e, y⟩ := y
    subst e
    exact hs i x _ (y xs q) p
  · have e : i = xs.length := by omega
    subst e
    exact .inl ⟨⟨xs, q, Nat.le_refl _⟩, hd H p⟩
/-- the inner `for` over a range -/
theorem in_range {lo : Int} {n : Nat} {g1 : TG} {tt1 : TT} {te : TE} {vs1 : List Nat} {σ2 : L2.St} {H4 : Hp} {D : Addr} {Nx : Hp → Prop} (Pv : Nat → Hp → Prop) (h0 : Pv 0 H4)
    (hs : ∀ i H, i < n → Pv i H → g1 (.int (lo + i)) (wipe σ2 vs1) H fun σ3 H5 => wipe σ3 vs1 = wipe σ2 vs1 ∧ tt1 σ3 H5 fun b H6 =>
      if b = true then te σ3 H6 fun y H7 => ∃ acc, H7 D = some (.lst acc) ∧ acc.length < sizeLine ∧ Pv (i + 1) (L2.upd H7 D (.lst (acc ++ [y]))) else Pv (i + 1) H6) (hd : ∀ H, Pv n H → Nx H) :
    ∃ W1 : Nat → Nat → Hp → Prop, (∃ m, W1 0 m H4) ∧ ∀ j k H, W1 j k H →
      ((Itr lo n).stop j H ∧ Nx H) ∨ ((Itr lo n).go j H ∧ ∃ Nx1 : Hp → Prop, (∀ H', Nx1 H' → ∃ k', k' < k ∧ W1 (j + 1) k' H') ∧ ∀ x H', (Itr lo n).yld j H x H' → g1 x (wipe σ2 vs1) H' fun σ3 H5 => wipe σ3 vs1 = wipe σ2 vs1 ∧ tt1 σ3 H5 fun b H6 =>
        if b = true then te σ3 H6 fun y H7 => ∃ acc, H7 D = some (.lst acc) ∧ acc.length < sizeLine ∧ Nx1 (L2.upd H7 D (.lst (acc ++ [y]))) else Nx1 H6) := by
  refine ⟨fun i m H => m = n - i ∧ i ≤ n ∧ Pv i H, ⟨n, by simp, Nat.zero_le _, h0⟩, ?_⟩
  rintro i m H ⟨rfl, hi, p⟩
  by_cases hlt : i < n
  · refine .inr ⟨hlt, Pv (i + 1), fun H' p' => ⟨n - (i + 1), by omega, rfl, hlt, p'⟩, fun x H' y => ?_⟩
    obtain ⟨e, y⟩ := y
    subst e y
    exact hs i _ hlt p
  · have e : i = n := by omega
    subst e
    exact .inl ⟨Nat.le_refl _, hd H p⟩
end CK

set_option Elab.async false
set_option linter.all false
set_option maxRecDepth 100000
set_option maxHeartbeats 4000000
/-! sorted of any data; sorted(.., key=len) of texts -/
namespace CK
open PySem PySem.Spec PyProof.Rows L2 PySem.W
theorem vals_each : ∀ {xs : List V} {us : List Value}, Vals xs us → EachIs (fun u x => RelV x u) us xs
  | _, _, .nil => .nil
  | _, _, .cons r t => .cons r (vals_each t)
theorem each_vals : ∀ {us : List Value} {xs : List V}, EachIs (fun u x => RelV x u) us xs → Vals xs us
  | _, _, .nil => .nil
  | _, _, .cons r t => .cons r (each_vals t)
section
variable {X : Cx}
/-- sorted(xs), a list of data -/
theorem cr_sortedA (hu : X.A.units + 64 < cLine) : CallR X (.builtin "sorted") (fun vs H Q => ∃ (a : Addr) (xs : List V) (d : V → PyData), vs = [V.ref a] ∧ SqL X.K H a xs ∧ (∀ v ∈ xs, Dp X.K H v (d v)) ∧ AllAlike (xs.map d) ∧ Sortable (xs.map d) ∧ (∀ v ∈ xs, (d v).depth ≤ 60) ∧
    ∀ p, H p = none → Q (.ref p) (upd H p (.lst (xs.mergeSort (dataLe false d))))) := by
  intro pins s σ H vs us Q I r h
  obtain ⟨a, xs, d, rfl, hs, hd, hal, hk, hb, q⟩ := h
  obtain ⟨its, rv, hl, hz⟩ := I.list hs
  rw [Vals.ref1 r]
  have e := vals_each rv
  have er : EachIs (fun v b => ∃ as, Reads s.heap v (d b) as) its xs := by
    have key : ∀ {us : List Value} {ys : List V}, EachIs (fun u x => RelV x u) us ys → (∀ v ∈ ys, v ∈ xs) → EachIs (fun v b => ∃ as, Reads s.heap v (d b) as) us ys := fun h => by
      induction h with
      | nil => intro _; exact .nil
      | cons hr _ ih => intro hm; exact .cons (Dp.reads I _ _ _ (hd _ (hm _ List.mem_cons_self)) hr) (ih fun v hv => hm v (List.mem_cons_of_mem _ hv))
    exact key e fun _ h => h
  refine sorted_data (l := a) (vs := its) (bs := xs) (enc := d) hl.isList e er hal hk hz (fun b hb' => by have := hb b hb'; omega) fun out ho eo => ?_
  obtain ⟨ep, he'⟩ := PyProof.Rows.sortedAll_at s.heap its out.toArray
  have hlen : (xs.mergeSort (dataLe false d)).length ≤ sizeLine := by
    rw [List.length_mergeSort]
    exact hz
  exact ⟨.ref _, upd H (s.heap.objs.size + 1) (.lst (xs.mergeSort (dataLe false d))), I.laid (t' := s.toks) (fun _ _ => PyProof.Rows.sortedAll_old) (Nat.le_succ _) ⟨hlen, out, ep, each_vals eo, he'⟩, rfl, q _ (I.hok.fresh (Nat.le_succ _))⟩
/-- a text's data -/
def dV : V → PyData
  | .str x => .str x
  | _ => .none
theorem alike_strs (zs : List Str) : AllAlike ((zs.map V.str).map dV) := fun d hd d' hd' => by
  rw [List.map_map] at hd hd'
  obtain ⟨x, _, rfl⟩ := List.mem_map.mp hd
  obtain ⟨y, _, rfl⟩ := List.mem_map.mp hd'
  rfl
theorem sortable_strs (zs : List Str) : Sortable ((zs.map V.str).map dV) := .inr fun d hd => by
  rw [List.map_map] at hd
  obtain ⟨x, _, rfl⟩ := List.mem_map.mp hd
  exact ⟨fun h => (nomatch h), fun _ h => (nomatch h)⟩
/-- the order of texts -/
def leS (x y : Str) : Bool := decide (x.cps.toList ≤ y.cps.toList)
theorem sort_strs (zs : List Str) : (zs.map V.str).mergeSort (dataLe false dV) = (zs.mergeSort leS).map V.str := by
  refine (sort_maps V.str fun a _ b _ => ?_).symm
  have := congrFun (congrFun (dataLe_str (β := Str) fun x => x) a) b
  show _ = dataLe false dV (V.str a) (V.str b)
  exact this.symm
/-- sorted(d), a dict whose keys are texts -/
theorem call_sortedDA (hcalm : X.calm = true) (hu : X.A.units + 64 < cLine) : CallR X (.builtin "sorted") (fun xs H Q => ∃ (a : Addr) (kvs : List (Key × V)) (ks : List Str), xs = [.ref a] ∧ Rd H a (.dK kvs) ∧ kvs.map (·.1) = ks.map Sum.inr ∧ ks.length ≤ sizeLine ∧
    ∀ p, H p = none → Q (.ref p) (upd H p (.lst ((ks.mergeSort leS).map V.str)))) := by
  intro pins s σ H xs us Q I r q
  obtain ⟨a, kvs, ks, ex, hd, hks, h64, q⟩ := q
  subst ex
  obtain ⟨u, eu, rx⟩ := vals1 r
  subst eu
  cases rx
  obtain ⟨z, lo, vs, rel, dd⟩ := dk_rd I.hok hd
  obtain ⟨ep, hat⟩ := dd.dictAt
  have hkeys : vs.map (·.1) = ks.map Sum.inr := rel.keys.symm.trans hks
  have hl : vs.length = ks.length := by
    have e := congrArg List.length hkeys
    rw [List.length_map, List.length_map] at e
    exact e
  have h16 : vs.length ≤ sizeLine := by rw [hl]; exact h64
  refine Calls.call_function_entry PyProof.Rows.kind_sorted PyProof.Rows.plain_sorted PyProof.Rows.entry_sorted (PyProof.Rows.args_sorted1 _) ?_
  unfold Builtin.«sorted»
  refine wpAny_bind (m := checkCount "sorted" 1 1 _) (wpAny_pure ?_)
  refine wpAny_bind (PySem.W.kdu_collect (A := X.A.in1) (PySem.W.kdl_dict (knd := mixKind X.prog X.w) (kvs := vs) (ep := ep) lo) (I.ok.hd hcalm) hat h16 fun h' tk acc hk hacc => ?_)
  have hal : acc.toList.length = ks.length := by rw [Array.length_toList, hacc.1, hl]
  have hS : StrsAre acc.toList ks := strs_at hal fun j v e => by
    obtain ⟨k, x, e1, e2⟩ := hacc.2 j v (by rw [← Array.getElem?_toList]; exact e)
    have e3 : (vs.map (·.1))[j]? = some k := by rw [List.getElem?_map, e1]; all_goals rfl
    rw [hkeys, List.getElem?_map] at e3
    cases e4 : ks[j]? with
    | none => rw [e4] at e3; cases e3
    | some y =>
      rw [e4] at e3
      have e5 : Sum.inr y = k := Option.some.inj e3
      subst e5
      obtain ⟨t, ev⟩ := Value.isStrOf_shape (x := y) (v := v) e2
      exact ⟨y, t, rfl, ev⟩
  have I1 : Inv X pins σ H { s with heap := h', toks := tk } := I.kept hk
  refine wpAny_bind (wpAny_newList ?_ (by rw [hal]; exact h64))
  have hoL : (h'.push (seqObj "list" acc.toList.toArray 0)).get? h'.objs.size = some (seqObj "list" acc.toList.toArray 0) := Heap.get?_push_size _ rfl
  show wpAny _ _ _ _ _ { s with heap := h'.push (seqObj "list" acc.toList.toArray 0), toks := tk }
  have ev : EachIs (fun u x => RelV x u) acc.toList (ks.map V.str) := vals_each (vals_of_strs hS)
  have er : ∀ (g : Heap), EachIs (fun v b => ∃ as, Reads g v (dV b) as ∧ h'.objs.size ∉ as) acc.toList (ks.map V.str) := fun g => by
    have key : ∀ {us : List Value} {ys : List Str}, StrsAre us ys → EachIs (fun v b => ∃ as, Reads g v (dV b) as ∧ h'.objs.size ∉ as) us (ys.map V.str) := fun h => by
      induction h with
      | nil => exact .nil
      | cons x t _ ih => exact .cons ⟨[], .str _ _, List.not_mem_nil⟩ ih
    exact key hS
  refine wpAny_bind (wpAny_holding (list_sort_data (s := { s with heap := h'.push (seqObj "list" acc.toList.toArray 0), toks := tk }) (enc := dV) hoL ev (er _) (alike_strs ks) (sortable_strs ks) (by rw [List.length_map]; exact h64) (fun b hb => ?_) fun out ho eo => ?_))
  · obtain ⟨x, _, rfl⟩ := List.mem_map.mp hb
    have e1 : (dV (V.str x)).depth = 0 := rfl
    have e2 : X.A.in1.units = X.A.units + 1 := rfl
    omega
  rw [sort_strs] at eo
  obtain ⟨e', he'⟩ := PyProof.Rows.sortedHeap_at (vs := acc.toList) (out := out.toArray) hoL
  have hlen : ((ks.mergeSort leS).map V.str).length ≤ sizeLine := by
    rw [List.length_map, List.length_mergeSort]
    exact h64
  refine wpAny_pure ⟨_, rfl, .ref h'.objs.size, upd H h'.objs.size (.lst ((ks.mergeSort leS).map V.str)), I1.laid (t' := tk) (fun b u e => ?_) (Nat.le_refl _)
    (show ObjOk X.prog X.w _ _ _ (.lst ((ks.mergeSort leS).map V.str)) from ⟨hlen, out, e', each_vals eo, he'⟩), rfl, q _ (I1.hok.fresh (Nat.le_refl _))⟩
  have hb : b < h'.objs.size := Heap.lt_size e
  rw [PyProof.Rows.sortedHeap_old (Nat.ne_of_lt hb) (by rw [size_push']; exact Nat.lt_succ_of_lt hb)]
  exact Heap.get?_push_of_some _ e
/-- the order by length -/
def leN (x y : Str) : Bool := decide (x.length ≤ y.length)
def lV : V → PyData
  | .str x => .int (x.length : Nat)
  | _ => .none
theorem sort_lens (zs : List Str) : (zs.map V.str).mergeSort (dataLe false lV) = (zs.mergeSort leN).map V.str := by
  refine (sort_maps V.str fun a _ b _ => ?_).symm
  have := congrFun (congrFun (dataLe_int (β := Str) fun x => (x.length : Nat)) a) b
  show _ = dataLe false lV (V.str a) (V.str b)
  refine Eq.trans ?_ this.symm
  exact decide_eq_decide.mpr ⟨fun h => by omega, fun h => by omega⟩
def rSortedLen (K : PySem.W.Frag) : List V → Hp → VK → Prop := fun vs H Q => ∃ (a : Addr) (zs : List Str), vs = [V.ref a] ∧ SqL K H a (zs.map V.str) ∧ (∀ z ∈ zs, z.length ≤ sizeLine) ∧ ∀ p, H p = none → Q (.ref p) (upd H p (.lst ((zs.mergeSort leN).map V.str)))
theorem pe_sortedLen {x y : Str} {p lp kp pos : Pos} {e : Expr} {t : TA} (hu : X.A.units + 64 < cLine) (hg : Gl X x) (hm : X.mg x = none) (hv : bootBuiltins x = some (.builtin "sorted")) (hg' : Gl X y) (hm' : X.mg y = none) (hv' : bootBuiltins y = some (.builtin "len")) (ha : PA X [e] t)
    (hn : x ≠ "__name__" := by decide) (hdb : (x == ("__debug__" : Str)) = false := by decide) (hn' : y ≠ "__name__" := by decide) (hdb' : (y == ("__debug__" : Str)) = false := by decide)
    (he : backTo pos (starEach [e] X.env) = (false, eval e X.env) :: backTo pos (starEach [] X.env) := by rfl) (hpl : (backTo pos (starEach [e] X.env)).any (·.1) = false := by rfl) :
    PE X (.Call (.Name x p) [e] [⟨some "key", .Name y lp, kp⟩] pos) (fun σ H Q => t σ H fun vs H1 => rSortedLen X.K vs H1 Q) := by
  refine ⟨fun pins s σ H Q I h => ?_⟩
  refine wpAny_Call_Name_kw (ld_blt I hg hm hv ?_ hn hdb)
  refine PyProof.Rows.callWith_kw (thn (ha.run pos pins s σ H _ I h) fun us s1 ⟨vs, H1, I1, r1, q1⟩ => ?_) he hpl rfl rfl
  show wpAny _ _ (evalAll ((do let v ← eval (.Name y lp) X.env; standAt pos; pure v) :: [])) _ _ s1
  refine wpAny_evalAll_cons (wpAny_bind (ld_blt I1 hg' hm' hv' (wpAny_bind (wpAny_standAt (wpAny_pure ?_))) hn' hdb'))
  refine wpAny_evalAll_nil ?_
  obtain ⟨a, zs, rfl, hs, hz, q⟩ := q1
  obtain ⟨its, rv, hl, hsz⟩ := I1.list hs
  rw [Vals.ref1 r1]
  show wpAny _ _ (call (.builtin "sorted") [.ref a] [(Str.ofString "key", .builtin "len")]) _ _ s1
  have e := vals_each rv
  refine sorted_key_data (l := a) (vs := its) (bs := zs.map V.str) lV hl.isList e (fun d hd d' hd' => ?_) (.inr fun d hd => ?_) hsz (fun b hb => ?_) (PyProof.Rows.ksk_s1 _ _) (fun _ => PyProof.Rows.ksk_l1 _ _) (fun x => PyProof.Rows.ksk_t4 _ _) (fun v x hr hx h' tk _ => ?_) fun out c h' tk k1 k2 k3 ho eo => ?_
  · rw [List.map_map] at hd hd'
    obtain ⟨x, _, rfl⟩ := List.mem_map.mp hd
    obtain ⟨y, _, rfl⟩ := List.mem_map.mp hd'
    rfl
  · rw [List.map_map] at hd
    obtain ⟨x, _, rfl⟩ := List.mem_map.mp hd
    exact ⟨fun h => (nomatch h), fun _ h => (nomatch h)⟩
  · obtain ⟨z, _, rfl⟩ := List.mem_map.mp hb
    have e1 : (lV (V.str z)).depth = 0 := rfl
    omega
  · obtain ⟨z, hz', rfl⟩ := List.mem_map.mp hx
    obtain ⟨t', rfl⟩ := hr
    have hn := line63
    have := hz z hz'
    exact len_str (by omega) ⟨_, _, rfl, fun _ _ e => e, .int _ _⟩
  · rw [sort_lens] at eo
    have hlen : ((zs.mergeSort leN).map V.str).length ≤ sizeLine := by
      rw [List.length_map, List.length_mergeSort]
      rw [List.length_map] at hsz
      exact hsz
    exact ⟨.ref _, upd H1 (s1.heap.objs.size + 1) (.lst ((zs.mergeSort leN).map V.str)), I1.laid (t' := tk) k1 (Nat.le_succ _) ⟨hlen, out, c, each_vals eo, k3⟩, rfl, q _ (I1.hok.fresh (Nat.le_succ _))⟩
end
end CK

set_option Elab.async false
set_option linter.all false
set_option maxRecDepth 100000
set_option maxHeartbeats 2000000
/-! a tuple of one item, k times, k of at least -1 -/
namespace CK
open PySem PySem.Spec PyProof.Rows L2 SX
theorem mulM1 (l : Addr) (v : Value) (n : Nat) (dd : Option Addr) (sl : Array (Option Value)) (u : Tok) :
    Meets (Builtin.«tuple.__mul__» ⟨[.ref l, .int (-1) u], []⟩) (fun _ R s =>
      s.heap.get? l = some { cls := .type "tuple", dict := dd, data := .seq #[v] n, slots := sl } ∧
      R (.ok (.ret (Value.ref s.heap.objs.size))) { s with heap := s.heap.push { cls := Value.type "tuple", data := Data.seq #[] } }) := by
  refine Meets.of_wp fun prog w A R s h => ?_
  obtain ⟨hq, g, d, tk, o2⟩ := s
  obtain ⟨hl, h⟩ := h
  have f1 := AutoSeq1.idx_int
  wp_walk using wpAny_loadPart' hl
  exact ⟨_, rfl, h⟩
section
variable {X : Cx}
theorem op_repOneZ : OpR X (binaryOp .Mult) (fun x y H Q => ∃ (l : Addr) (k : Int) (v : V), x = .ref l ∧ y = .int k ∧ H l = some (.tup [v]) ∧ -1 ≤ k ∧ k ≤ 1000 ∧
    ∀ p H', Same H H' → H' p = some (.tup (List.replicate k.toNat v)) → Q (.ref p) H') := by
  intro pins s σ H x y xv yv Q I rx ry h
  obtain ⟨l, k, v, rfl, rfl, hl, h0, h1, q⟩ := h
  by_cases hk : k = -1
  · subst hk
    cases rx
    obtain ⟨t, rfl⟩ := ry
    obtain ⟨zs, r, ⟨⟨cl, dd, da, sl⟩, ho, hc, n, hd⟩, hs⟩ := I.tuple (.inl (.inl hl) : SqT X.K H l [v])
    simp only at hc hd
    subst hc hd
    cases r with
    | cons r1 r2 =>
    cases r2
    rename_i u
    refine wpAny_binaryOp_repeat_ref (T := "tuple") (U := "int") (by decide) ⟨_, ho, rfl⟩ (fun s' => typeIs_int s' (-1) t) mulFill F.fills_int_mul F.slot_int_rmul mulSeq F.slot_int_index.lookup
      (call_meets F.slot_int_rmul (typeIs_int s (-1) t) F.entry_int_rmul (F.args_int_rmul_2 _ _) (rmulNo (-1) t l _ n dd sl)
        ⟨ho, rfl, ⟨_, ho, rfl⟩, call_meets F.slot_tuple_mul ⟨_, ho, rfl⟩ F.entry_tuple_mul (F.args_tuple_mul_2 _ _) (mulM1 l _ n dd sl t) ⟨ho, ?_⟩⟩)
    have hn : H s.heap.objs.size = none := I.hok.fresh (Nat.le_refl _)
    refine ⟨.ref s.heap.objs.size, _, I.laid (t' := s.toks) (o := .tup []) (fun b ob q => Heap.get?_push_of_some _ q) (Nat.le_refl _) ?_, rfl, q _ _ (sameNew hn) upd_same⟩
    exact ⟨Nat.zero_le _, [], .nil, IsTup.new _ _⟩
  · exact op_repOne pins s σ H _ _ xv yv Q I rx ry ⟨l, k, v, rfl, rfl, hl, by omega, h1, q⟩
end
end CK

set_option Elab.async false
set_option linter.all false
set_option maxRecDepth 100000
set_option maxHeartbeats 2000000
/-! == of two objects of an own class, by its __eq__, which may say yes or no -/
namespace CK
open PySem PySem.Spec PyProof.Rows L2 SX
section
variable {X : Cx} {k j : Nat} {C : Addr} {sp : Sp}
def rEqO (C : Addr) (sp : Sp) : R2 := fun x y H Q => ∃ a b dx fs dy gs, x = .ref a ∧ y = .ref b ∧ H a = some (.ins C dx fs) ∧ H b = some (.ins C dy gs) ∧ sp [.ref a, .ref b] H (fun v H' => (∃ r, v = .bl r) ∧ Q v H') C8.E0
theorem op_eqO (c : C8.Met X.prog X.w X.K X.mg X.base k C "__eq__" sp []) (hr : Room j X.A) (hk : k ≤ j) : OpR X (compareOp .Eq) (rEqO C sp) := by
  intro pins s σ H x y v u Q I rx ry h
  obtain ⟨a, b, dx, fs, dy, gs, rfl, rfl, ha, hb', hsp⟩ := h
  obtain ⟨f, fd, ps, ds, hc, hm, F, bnd, d⟩ := c.ex
  cases d
  cases rx
  cases ry
  obtain ⟨mA, J, _⟩ := ins_get I.hok ha
  obtain ⟨mB, J', _⟩ := ins_get I.hok hb'
  obtain ⟨od, J, _⟩ := J.look
  obtain ⟨od', J', _⟩ := J'.look
  obtain ⟨m, hF⟩ := I.fr
  have hr' := hr.mono hk
  show wpAny (model X.prog X.w) X.A (richCompare .Eq (.ref a) (.ref b)) (EP X pins σ Q) X.xe s
  refine PySem.W.cmp_K (op := .Eq) (tb := .ref C) hr.units0 hF I.ok.mod.kin J J'.type (by simp [PySem.W.notFirst]) hm.at_ hm.fn ?_
  have hl := F.len _ _ _ _ hsp
  have r2 : Vals [V.ref a, V.ref b] [Value.ref a, Value.ref b] := .cons rfl (.cons rfl .nil)
  refine wpAny_call (codeAny_mono (F.run X.A X.stack s H ⟨[.ref a, .ref b], []⟩ [.ref a, .ref b] [.ref a, .ref b] _ C8.E0 hr' I.env0 (by
    have := bnd s [.ref a, .ref b] I.kIn (by simpa using hl)
    simpa using this) r2 hsp) fun r s' hq => ?_)
  cases r with
  | error e => exact C8.pass0 (E := C8.E0) pins σ H s e s' I hq
  | ok fl =>
    cases fl with
    | ret w =>
      obtain ⟨z, H', I', rz, ⟨r, ez⟩, q⟩ := I.after hq
      subst ez
      cases rz
      exact ⟨.bl r, H', I', rfl, q⟩
    | next => exact False.elim hq
    | brk => exact False.elim hq
    | cont => exact False.elim hq
end
end CK

set_option Elab.async false
set_option linter.all false
set_option maxRecDepth 100000
set_option maxHeartbeats 2000000
/-! dicts whose keys are letters: isinstance, walks locked, comprehensions over keys and over signs -/
namespace CK
open PySem PySem.Spec PyProof.Rows L2 SX
section
variable {X : Cx}
/-- isinstance(d, dict) -/
theorem call_isD : CallR X (.builtin "isinstance") (fun xs H Q => ∃ (a : Addr) (kvs : List (Key × V)), xs = [.ref a, .ty "dict"] ∧ H a = some (.dK kvs) ∧ Q (.bl true) H) := by
  intro pins s σ H xs us Q I r h
  obtain ⟨a, kvs, rfl, e, q⟩ := h
  exact call_isi pins s σ H _ us Q I r ⟨.ref a, .ty "dict", _, _, true, rfl, .ty "dict", .base (.dK e), kit_ty (by decide +kernel), q⟩
theorem room1 {k : Nat} {A : Around} (hr : Room k A) : A.units + 1 < cLine := by
  have := hr.units
  omega
end
theorem same_lock {H H' : Hp} {d : Addr} {od : Obj} {u : HO} (h : H d = some u) (s : Same (upd H d (.frz od u)) H') : H' d = some (.frz od u) ∧ Same H (upd H' d u) := by
  refine ⟨s _ _ upd_same, fun b o e => ?_⟩
  by_cases z : b = d
  · rw [z] at e ⊢
    rw [upd_same, ← h]
    exact e.symm ▸ rfl
  · rw [upd_ne z]
    exact s _ _ (by rw [upd_ne z]; exact e)
theorem lock_same {H H' : Hp} {d : Addr} {od : Obj} {u : HO} (s : Same (upd H d (.frz od u)) H') {b : Addr} {o : HO} (ne : b ≠ d) (e : H b = some o) : H' b = some o := s _ _ (by rw [upd_ne ne]; exact e)
/-- over the signs of a text -/
theorem lcS_map {z : List Nat} {j : Nat} {te : TE} {vs : List Nat} {σ : L2.St} {H1 : Hp} {D : Addr} {Qd : Hp → Prop} (f : Nat → V) (hn : z.length < sizeLine)
    (hs : ∀ (i c : Nat) (H : Hp) (R : VK), z[i]? = some c → Same H1 H → (∀ H', Same H H' → R (f c) H') → wipe ((wipe σ vs).set j (some (.str (S [c])))) vs = wipe σ vs ∧ te ((wipe σ vs).set j (some (.str (S [c])))) H R)
    (hD : H1 D = none) (hd : ∀ H : Hp, Same H1 H → H D = some (.lst (z.map f)) → Qd H) :
    ∃ W : Nat → Nat → Hp → Prop, (∃ m, W 0 m (upd H1 D (.lst []))) ∧ ∀ i m H, W i m H →
      ((Its (S z)).stop i H ∧ Qd H) ∨ ((Its (S z)).go i H ∧ ∃ Nx : Hp → Prop, (∀ H', Nx H' → ∃ m', m' < m ∧ W (i + 1) m' H') ∧ ∀ x H', (Its (S z)).yld i H x H' → gName j x (wipe σ vs) H' fun σ2 H2 => wipe σ2 vs = wipe σ vs ∧ tYes σ2 H2 fun b H3 =>
        if b = true then te σ2 H3 fun y H4 => ∃ acc, H4 D = some (.lst acc) ∧ acc.length < sizeLine ∧ Nx (upd H4 D (.lst (acc ++ [y]))) else Nx H3) := by
  have e : (List.range z.length).map (fun i => f (z.getD i 0)) = z.map f := range_map_get z f _ fun i x h => by rw [List.getD_eq_getElem?_getD, h]; rfl
  refine lc_mapW (n := z.length) (walk_str (z := S z)) (fun i => f (z.getD i 0)) hn (fun H s => True.intro) (fun i x H H' R hi s y q => ?_) hD fun H s q => hd H s (by rw [q, e])
  obtain ⟨rfl, c, hc, rfl⟩ := y
  have hc' : z[i]? = some c := by
    have : (z.toArray)[i]? = some c := hc
    simpa using this
  refine hs i c H' R hc' s fun H'' s' => ?_
  have := q H'' s'
  rw [show z.getD i 0 = c by rw [List.getD_eq_getElem?_getD, hc']; rfl] at this
  exact this
/-- over the keys of a dict, locked -/
theorem lcK_map {d : Addr} {od : Obj} {kvs : List (Key × V)} {j : Nat} {te : TE} {vs : List Nat} {σ : L2.St} {H1 : Hp} {D : Addr} {Qd : Hp → Prop} (f : Nat → V) (hn : kvs.length < sizeLine) (hk : H1 d = some (.frz od (.dK kvs)))
    (hs : ∀ (i : Nat) (k : Key) (v : V) (H : Hp) (R : VK), kvs[i]? = some (k, v) → Same H1 H → (∀ H', Same H H' → R (f i) H') → wipe ((wipe σ vs).set j (some (kV k))) vs = wipe σ vs ∧ te ((wipe σ vs).set j (some (kV k))) H R)
    (hD : H1 D = none) (hd : ∀ H : Hp, Same H1 H → H D = some (.lst ((List.range kvs.length).map f)) → Qd H) :
    ∃ W : Nat → Nat → Hp → Prop, (∃ m, W 0 m (upd H1 D (.lst []))) ∧ ∀ i m H, W i m H →
      ((Itk d od kvs).stop i H ∧ Qd H) ∨ ((Itk d od kvs).go i H ∧ ∃ Nx : Hp → Prop, (∀ H', Nx H' → ∃ m', m' < m ∧ W (i + 1) m' H') ∧ ∀ x H', (Itk d od kvs).yld i H x H' → gName j x (wipe σ vs) H' fun σ2 H2 => wipe σ2 vs = wipe σ vs ∧ tYes σ2 H2 fun b H3 =>
        if b = true then te σ2 H3 fun y H4 => ∃ acc, H4 D = some (.lst acc) ∧ acc.length < sizeLine ∧ Nx (upd H4 D (.lst (acc ++ [y]))) else Nx H3) := by
  refine lc_mapW (walk_keys (d := d) (o := od) (kvs := kvs)) f hn (fun H s => s _ _ hk) (fun i x H H' R hi s y q => ?_) hD hd
  obtain ⟨rfl, k, v, hkv, rfl⟩ := y
  exact hs i k v H' R hkv s q
theorem valV_mem {κ : Type} [DecidableEq κ] : ∀ {kvs : List (κ × V)} {k : κ} {v : V}, valV kvs k = some v → (k, v) ∈ kvs
  | p :: r, k, v, h => by
    by_cases e : p.1 = k
    · rw [valV_pos e] at h
      cases h
      rw [← e]
      exact List.mem_cons_self
    · rw [valV_neg e] at h
      exact List.mem_cons_of_mem _ (valV_mem h)
theorem valV_some {κ : Type} [DecidableEq κ] : ∀ {kvs : List (κ × V)} {k : κ} {v : V}, (k, v) ∈ kvs → ∃ u, valV kvs k = some u
  | p :: r, k, v, h => by
    by_cases e : p.1 = k
    · exact ⟨_, valV_pos e⟩
    · rcases List.mem_cons.mp h with z | z
      · exact absurd (by rw [← z]) e
      · obtain ⟨u, hu⟩ := valV_some z
        exact ⟨u, by rw [valV_neg e]; exact hu⟩
end CK

set_option Elab.async false
set_option linter.all false
set_option maxRecDepth 100000
set_option maxHeartbeats 4000000
/-! name = {k: v for ..}; the same over a list, over the keys of a locked dict; a list over such keys -/
namespace CK
open PySem PySem.Spec PyProof.Rows L2
section
variable {X : Cx}
theorem ps_setDc {i : Nat} {y : Str} {py : Pos} {kx vx tg iter : Expr} {ifs : List Expr} {scope : Scope} {own : List (Str × Nat)} {pos spos : Pos} {wi : TI} {g : TG} {tt : TT} {tk tv : TE} (hc : X.calm = true) (hN : X.N.Nodup) (hy : X.N[i]? = some y) (hyl : X.env.scope.names.lookup y = some .local)
    (hsw : swapsWith (.DictComp kx vx [⟨tg, iter, ifs, 0⟩] scope pos) (some (.Name y py)) spos.line X.env = pure true) (hi : PI X tg iter wi) (ok : BlkOk X.N X.env.scope scope own)
    (hg : ∀ (s : Shared) (H : Hp) (C : Addr) (cl : List (Str × Addr)) (fp : List Addr), PG (X.blk s H scope (compEnvC scope cl C X.env) fp) tg g) (ht : ∀ (s : Shared) (H : Hp) (C : Addr) (cl : List (Str × Addr)) (fp : List Addr), PTs (X.blk s H scope (compEnvC scope cl C X.env) fp) ifs tt)
    (hk : ∀ (s : Shared) (H : Hp) (C : Addr) (cl : List (Str × Addr)) (fp : List Addr), PE (X.blk s H scope (compEnvC scope cl C X.env) fp) kx tk)
    (he : ∀ (s : Shared) (H : Hp) (C : Addr) (cl : List (Str × Addr)) (fp : List Addr), PE (X.blk s H scope (compEnvC scope cl C X.env) fp) vx tv) (hs : ∀ x, foldedSetIterable iter X.env x = pure x := by intro _; rfl) :
    PS X (.Assign [.Name y py] (.DictComp kx vx [⟨tg, iter, ifs, 0⟩] scope pos) spos) (tAsg (tDc wi g tt tk tv (own.map (·.2))) (gName i)) := by
  refine ⟨fun pins s σ H D I h => ?_⟩
  rw [exec_Assign_Name_used _ _ _ _ hsw]
  refine wpAny_bind (wpAny_standAt (wpAny_bind ?_))
  show wpAny _ X.A (do let _ ← comprehension (.DictComp kx vx [⟨tg, iter, ifs, 0⟩] scope pos) scope X.env (firstIterPos [⟨tg, iter, ifs, 0⟩] pos) newDict false (eval iter X.env) (some (assign (.Name y py) X.env))) _ _ s
  have h : tDc wi g tt tk tv (own.map (·.2)) σ H (fun x H1 => gName i x σ H1 D.nx) := h
  refine wpAny_bind (thn (dc_core (Qf := fun _ s' => SP X pins D .next s') hc hN I hi ok hg ht hk he hs h fun L C s' m H' I' q hn f => ?_) fun _ s' hq => wpAny_pure (wpAny_pure hq))
  show wpAny _ _ (assign (.Name y py) X.env (.ref L)) _ _ _
  refine wpAny_assign_Name (store_ok2 (v := V.ref L) I' hN hy (.inl hyl) rfl (fun s2 I2 ⟨a, sb, ha⟩ => ?_) (.inr hyl))
  obtain ⟨f0, f1, f2, f3, f4, f5⟩ := f
  have haC : C ≠ a := by
    rcases ha with z | z
    · rw [z]; exact f1
    · exact fun e => f4 y a z e.symm
  refine ⟨m, hn.sameBut sb haC, fun h3 sb3 => ?_⟩
  exact ⟨_, H', I2.turned (t' := s2.toks) (fun b o hb e => (sb3.2 b hb).trans e) f0 f1 f3 f4 f5, q⟩
theorem sw_trueD {kx vx : Expr} {gs : List Comprehension} {scope : Scope} {pos py : Pos} {y : Str} {l : Nat} {env : Env} (hk : env.scope.kind = .function) (hy : env.scope.names.lookup y = some .local) (hl : (py.line == pos.line) = true)
    (ha : (scope.names.any fun (n, k) => n == y && (k == .local || k == .cell)) = false) : swapsWith (.DictComp kx vx gs scope pos) (some (.Name y py)) l env = pure true := by
  have ky : env.kindOf y = some .local := hy
  have hb : env.blockKind = .function := by unfold Env.blockKind; rw [hk]; rfl
  unfold swapsWith
  simp only [hb, ky, ha, Expr.pos, hl]
  rfl
end
/-- over a list that stays -/
theorem dc_list {K : PySem.W.Frag} {a : Addr} {xs : List V} {g : TG} {tt : TT} {tk tv : TE} {vs : List Nat} {σ : L2.St} {H1 : Hp} {D : Addr} {Qd : Hp → Prop} (Pv : Nat → Hp → Prop) (h0 : Pv 0 (L2.upd H1 D (.dK []))) (hl : ∀ i H, i ≤ xs.length → Pv i H → SqL K H a xs)
    (hs : ∀ i x H, xs[i]? = some x → Pv i H → g x (wipe σ vs) H fun σ2 H2 => wipe σ2 vs = wipe σ vs ∧ tt σ2 H2 fun b H3 =>
      if b = true then tk σ2 H3 fun y H4 => tv σ2 H4 fun z H5 => ∃ kvs k, y = kV k ∧ H5 D = some (.dK kvs) ∧ kvs.length < sizeLine ∧ Pv (i + 1) (L2.upd H5 D (.dK (putK kvs k z))) else Pv (i + 1) H3) (hd : ∀ H, Pv xs.length H → Qd H) :
    ∃ W : Nat → Nat → Hp → Prop, (∃ m, W 0 m (L2.upd H1 D (.dK []))) ∧ ∀ i m H, W i m H →
      ((Itl K a).stop i H ∧ Qd H) ∨ ((Itl K a).go i H ∧ ∃ Nx : Hp → Prop, (∀ H', Nx H' → ∃ m', m' < m ∧ W (i + 1) m' H') ∧ ∀ x H', (Itl K a).yld i H x H' → g x (wipe σ vs) H' fun σ2 H2 => wipe σ2 vs = wipe σ vs ∧ tt σ2 H2 fun b H3 =>
        if b = true then tk σ2 H3 fun y H4 => tv σ2 H4 fun z H5 => ∃ kvs k, y = kV k ∧ H5 D = some (.dK kvs) ∧ kvs.length < sizeLine ∧ Nx (L2.upd H5 D (.dK (putK kvs k z))) else Nx H3) := by
  refine ⟨fun i m H => m = xs.length - i ∧ i ≤ xs.length ∧ Pv i H, ⟨xs.length, by simp, Nat.zero_le _, h0⟩, ?_⟩
  rintro i m H ⟨rfl, hi, p⟩
  have q := hl i H hi p
  by_cases hlt : i < xs.length
  · refine .inr ⟨⟨xs, xs[i], q, by simp [hlt]⟩, Pv (i + 1), fun H' p' => ⟨xs.length - (i + 1), by omega, rfl, hlt, p'⟩, fun x H' y => ?_⟩
    obtain ⟨e, y⟩ := y
    subst e
    exact hs i x _ (y xs q) p
  · have e : i = xs.length := by omega
    subst e
    exact .inl ⟨⟨xs, q, Nat.le_refl _⟩, hd H p⟩
/-- over the keys of a locked dict -/
theorem dc_keys {d : Addr} {od : Obj} {ks : List (Key × V)} {g : TG} {tt : TT} {tk tv : TE} {vs : List Nat} {σ : L2.St} {H1 : Hp} {D : Addr} {Qd : Hp → Prop} (Pv : Nat → Hp → Prop) (h0 : Pv 0 (L2.upd H1 D (.dK []))) (hl : ∀ i H, i ≤ ks.length → Pv i H → H d = some (.frz od (.dK ks)))
    (hs : ∀ i k v H, ks[i]? = some (k, v) → Pv i H → g (kV k) (wipe σ vs) H fun σ2 H2 => wipe σ2 vs = wipe σ vs ∧ tt σ2 H2 fun b H3 =>
      if b = true then tk σ2 H3 fun y H4 => tv σ2 H4 fun z H5 => ∃ kvs k, y = kV k ∧ H5 D = some (.dK kvs) ∧ kvs.length < sizeLine ∧ Pv (i + 1) (L2.upd H5 D (.dK (putK kvs k z))) else Pv (i + 1) H3) (hd : ∀ H, Pv ks.length H → Qd H) :
    ∃ W : Nat → Nat → Hp → Prop, (∃ m, W 0 m (L2.upd H1 D (.dK []))) ∧ ∀ i m H, W i m H →
      ((Itk d od ks).stop i H ∧ Qd H) ∨ ((Itk d od ks).go i H ∧ ∃ Nx : Hp → Prop, (∀ H', Nx H' → ∃ m', m' < m ∧ W (i + 1) m' H') ∧ ∀ x H', (Itk d od ks).yld i H x H' → g x (wipe σ vs) H' fun σ2 H2 => wipe σ2 vs = wipe σ vs ∧ tt σ2 H2 fun b H3 =>
        if b = true then tk σ2 H3 fun y H4 => tv σ2 H4 fun z H5 => ∃ kvs k, y = kV k ∧ H5 D = some (.dK kvs) ∧ kvs.length < sizeLine ∧ Nx (L2.upd H5 D (.dK (putK kvs k z))) else Nx H3) := by
  refine ⟨fun i m H => m = ks.length - i ∧ i ≤ ks.length ∧ Pv i H, ⟨ks.length, by simp, Nat.zero_le _, h0⟩, ?_⟩
  rintro i m H ⟨rfl, hi, p⟩
  have q := hl i H hi p
  by_cases hlt : i < ks.length
  · refine .inr ⟨⟨q, hlt⟩, Pv (i + 1), fun H' p' => ⟨ks.length - (i + 1), by omega, rfl, hlt, p'⟩, fun x H' y => ?_⟩
    obtain ⟨rfl, k, v, e, rfl⟩ := y
    exact hs i k v _ e p
  · have e : i = ks.length := by omega
    subst e
    exact .inl ⟨⟨q, Nat.le_refl _⟩, hd H p⟩
end CK

set_option Elab.async false
set_option linter.all false
set_option maxRecDepth 100000
set_option maxHeartbeats 2000000
/-! == of an object of an own class and a list, by the object's __eq__ -/
namespace CK
open PySem PySem.Spec PyProof.Rows L2 SX
section
variable {X : Cx} {k j : Nat} {C : Addr} {sp : Sp}
def rEqOL (C : Addr) (sp : Sp) : R2 := fun x y H Q => ∃ a b dx fs xs, x = .ref a ∧ y = .ref b ∧ H a = some (.ins C dx fs) ∧ H b = some (.lst xs) ∧ sp [.ref a, .ref b] H (fun v H' => (∃ r, v = .bl r) ∧ Q v H') C8.E0
theorem notFirst_list (K : PySem.W.Frag) (C : Addr) : PySem.W.notFirst K C (.type "list") = true := by
  have : PySem.W.subIn K (.type "list") (.ref C) = some false := by rfl
  unfold PySem.W.notFirst
  rw [this]
  simp
theorem op_eqOL (c : C8.Met X.prog X.w X.K X.mg X.base k C "__eq__" sp []) (hr : Room j X.A) (hk : k ≤ j) : OpR X (compareOp .Eq) (rEqOL C sp) := by
  intro pins s σ H x y v u Q I rx ry h
  obtain ⟨a, b, dx, fs, xs, rfl, rfl, ha, hb', hsp⟩ := h
  obtain ⟨f, fd, ps, ds, hc, hm, F, bnd, d⟩ := c.ex
  cases d
  cases rx
  cases ry
  obtain ⟨mA, J, _⟩ := ins_get I.hok ha
  obtain ⟨od, J, _⟩ := J.look
  obtain ⟨its, rv, hT, _⟩ := I.list (.inl (.inl hb'))
  obtain ⟨m, hF⟩ := I.fr
  have hr' := hr.mono hk
  obtain ⟨ob, nb, eb, cb, _, _⟩ := hT
  have hty : PySem.W.Looks (model X.prog X.w) s.heap (typeOf (.ref b)) (.type "list") := (PySem.W.Looks.ld eb).andThen (by rw [cb]; exact .now)
  show wpAny (model X.prog X.w) X.A (richCompare .Eq (.ref a) (.ref b)) (EP X pins σ Q) X.xe s
  refine PySem.W.cmp_K (op := .Eq) (tb := .type "list") hr.units0 hF I.ok.mod.kin J hty (notFirst_list _ _) hm.at_ hm.fn ?_
  have hl := F.len _ _ _ _ hsp
  have r2 : Vals [V.ref a, V.ref b] [Value.ref a, Value.ref b] := .cons rfl (.cons rfl .nil)
  refine wpAny_call (codeAny_mono (F.run X.A X.stack s H ⟨[.ref a, .ref b], []⟩ [.ref a, .ref b] [.ref a, .ref b] _ C8.E0 hr' I.env0 (by
    have := bnd s [.ref a, .ref b] I.kIn (by simpa using hl)
    simpa using this) r2 hsp) fun r s' hq => ?_)
  cases r with
  | error e => exact C8.pass0 (E := C8.E0) pins σ H s e s' I hq
  | ok fl =>
    cases fl with
    | ret w =>
      obtain ⟨z, H', I', rz, ⟨r, ez⟩, q⟩ := I.after hq
      subst ez
      cases rz
      exact ⟨.bl r, H', I', rfl, q⟩
    | next => exact False.elim hq
    | brk => exact False.elim hq
    | cont => exact False.elim hq
/-- the class object is of the type type -/
def TyC (K : PySem.W.Frag) (C : Addr) : Prop := ∃ od cd sl, K.lookup C = some ⟨.type "type", od, .cls cd, sl⟩
theorem tyc_mk {K : PySem.W.Frag} {mg : Str → Option Value} {x : Str} {C : Addr} (_ : ClF K mg x C) {oc : Value} {od : Option Addr} {cd : ClassData} {sl : Array (Option Value)} (l : K.lookup C = some ⟨oc, od, .cls cd, sl⟩) (e : oc = .type "type") : TyC K C := by
  subst e
  exact ⟨_, _, _, l⟩
theorem with_tyc {K : PySem.W.Frag} {mg : Str → Option Value} {x : Str} {C : Addr} (_ : ClF K mg x C) {R : Prop} (d : TyC K C) (r : TyC K C → R) : R := r d
theorem kit_listC {K : PySem.W.Frag} {C : Addr} (t : TyC K C) : PySem.W.kitOne K (.type "list") (.ref C) = some false := by
  obtain ⟨od, cd, sl, l⟩ := t
  have s : PySem.W.subIn K (.type "list") (.ref C) = some false := by rfl
  have h1 : PySem.W.clsIn K C = some cd := by unfold PySem.W.clsIn; rw [l]
  have h2 : PySem.W.typeIn K (.ref C) = some (.type "type") := by
    show (K.lookup C).map _ = _
    rw [l]
    rfl
  have h3 : PySem.W.kitCls K (.type "list") (.ref C) = some false := by
    unfold PySem.W.kitCls
    dsimp only
    rw [h1, h2, s]
    rfl
  unfold PySem.W.kitOne
  rw [h3]
  rfl
/-- isinstance of an object of an own class, or of a list -/
theorem call_isCL (c : C8.InsC X.K C) (t : TyC X.K C) : CallR X (.builtin "isinstance") (fun xs H Q => (∃ a dx fs, xs = [.ref a, .ref C] ∧ H a = some (.ins C dx fs) ∧ Q (.bl true) H) ∨ ∃ a ys, xs = [.ref a, .ref C] ∧ H a = some (.lst ys) ∧ Q (.bl false) H) := by
  intro pins s σ H xs us Q I r h
  rcases h with h | ⟨a, ys, rfl, ha, q⟩
  · exact C8.call_isC c pins s σ H xs us Q I r h
  · exact call_isi pins s σ H _ us Q I r ⟨.ref a, .ref C, .type "list", .ref C, false, rfl, .own C, .base (.lst ha), kit_listC t, q⟩
end
end CK

set_option Elab.async false
set_option linter.all false
set_option maxRecDepth 100000
/-! (instance, number) == (instance, number): tuples whose instances are equal by their own == -/
namespace CK
open PySem PySem.Spec PyProof.Rows L2
section
variable {X : Cx} {k j : Nat} {C : Addr} {sp : Sp} {R : Addr → Addr → Hp → Prop}
/-- two of the class that R tells equal, or two equal flat values -/
abbrev DPart (C : Addr) (R : Addr → Addr → Hp → Prop) : Eqv := fun x y H => DIns C R x y H ∨ DFlat x y H
theorem op_eqTO (c : C8.Met X.prog X.w X.K X.mg X.base k C "__eq__" sp []) (hR : ∀ a b H H', Ext H H' → R a b H → R a b H') (hs : ∀ vs H Q E, spEq R vs H Q E → sp vs H Q E) (hr : Room j X.A) (hk : k + 1 ≤ j) : OpR X (compareOp .Eq) (rEqG (DTup X.K (DPart C R))) := by
  obtain ⟨f, fd, ps, ds, hc, hm, F, bnd, d⟩ := c.ex
  cases d
  have e1 : EqG X k (DIns C R) := eqG_ins (F.imp hs) hm.at_ hm.fn bnd (C8.pass0 (E := C8.E0))
  exact op_eqG (rcG_tup (Mon.or (mon_ins hR) mon_flat) (e1.or (eqG_flat.mono (Nat.zero_le _)))) (hr.mono hk)
end
end CK

set_option Elab.async false
set_option linter.all false
set_option maxRecDepth 100000
/-! lists of instances: == by their own ==; != of two lists of the same objects -/
namespace CK
open PySem PySem.Spec PyProof.Rows L2
section
variable {X : Cx} {k j : Nat} {C : Addr} {sp : Sp} {R : Addr → Addr → Hp → Prop}
theorem op_eqLO (c : C8.Met X.prog X.w X.K X.mg X.base k C "__eq__" sp []) (hR : ∀ a b H H', Ext H H' → R a b H → R a b H') (hs : ∀ vs H Q E, spEq R vs H Q E → sp vs H Q E) (hr : Room j X.A) (hk : k + 1 ≤ j) : OpR X (compareOp .Eq) (rEqG (DList (DIns C R))) := by
  obtain ⟨f, fd, ps, ds, hc, hm, F, bnd, d⟩ := c.ex
  cases d
  have e1 : EqG X k (DIns C R) := eqG_ins (F.imp hs) hm.at_ hm.fn bnd (C8.pass0 (E := C8.E0))
  exact op_eqG (rcG_list (mon_ins hR) e1) (hr.mono hk)
theorem refs_its : ∀ {as : List Addr} {us : List Value}, Vals (as.map V.ref) us → us = as.map Value.ref
  | [], _, r => by cases r; rfl
  | a :: as, _, r => by
    cases r with
    | cons h t =>
      rw [refs_its t]
      have h : _ = Value.ref a := h
      rw [h]
      rfl
theorem op_neRefs (hu : X.A.units < cLine) : OpR X (compareOp .NotEq) (fun x y H Q => ∃ (a b : Addr) (as : List Addr), x = .ref a ∧ y = .ref b ∧ H a = some (.lst (as.map V.ref)) ∧ H b = some (.lst (as.map V.ref)) ∧ Q (.bl false) H) := by
  intro pins s σ H x y v u Q I rx ry h
  obtain ⟨a, b, as, rfl, rfl, ha, hb, q⟩ := h
  cases rx
  cases ry
  obtain ⟨its, r1, l1, _⟩ := I.list (.inl (.inl ha))
  obtain ⟨its2, r2, l2, _⟩ := I.list (.inl (.inl hb))
  rw [refs_its r1] at l1
  rw [refs_its r2] at l2
  show wpAny (model X.prog X.w) X.A (richCompare .NotEq (.ref a) (.ref b)) (EP X pins σ Q) X.xe s
  refine SeqAt.RcNeAt.lists (e := fun _ => true) l1.isList l2.isList rfl hu (fun j h1 h2 => SeqAt.EqAt.same _) X.prog X.w _ _ ?_
  have e : (!(List.range (as.map Value.ref).toArray.size).all fun _ => true) = false := by simp
  rw [e]
  exact ⟨.bl false, H, I, rfl, q⟩
/-- xs == [], whatever the items are -/
theorem op_eqNil (hu : X.A.units < cLine) : OpR X (compareOp .Eq) (fun x y H Q => ∃ (a b : Addr) (xs : List V), x = .ref a ∧ y = .ref b ∧ H a = some (.lst xs) ∧ H b = some (.lst []) ∧ Q (.bl (decide (xs = []))) H) := by
  intro pins s σ H x y v u Q I rx ry h
  obtain ⟨a, b, xs, rfl, rfl, ha, hb, q⟩ := h
  cases rx
  cases ry
  obtain ⟨its, r1, l1, _⟩ := I.list (.inl (.inl ha))
  obtain ⟨its2, r2, l2, _⟩ := I.list (.inl (.inl hb))
  have n2 : its2 = [] := List.length_eq_zero_iff.mp (by rw [← r2.length]; rfl)
  subst n2
  show wpAny (model X.prog X.w) X.A (richCompare .Eq (.ref a) (.ref b)) (EP X pins σ Q) X.xe s
  cases xs with
  | nil =>
    have n1 : its = [] := List.length_eq_zero_iff.mp (by rw [← r1.length]; rfl)
    subst n1
    refine SeqAt.RcAt.lists (e := fun _ => true) l1.isList l2.isList rfl hu (fun j h1 h2 => absurd h1 (by simp)) X.prog X.w _ _ ?_
    exact ⟨.bl true, H, I, rfl, q⟩
  | cons x xs =>
    have n1 : its.length = xs.length + 1 := by rw [← r1.length]; rfl
    refine SeqAt.RcAt.lists_lengths l1.isList l2.isList (by simp [n1]) hu X.prog X.w _ _ ?_
    exact ⟨.bl false, H, I, rfl, q⟩
end
end CK

set_option Elab.async false
set_option linter.all false
/-! words by length, those of one length by their letters: two sorts one behind the other, and one sort of pairs -/
namespace CK
open PySem PySem.W
def leW (a b : List Nat) : Bool := decide (a ≤ b)
def leL (a b : List Nat) : Bool := decide (a.length ≤ b.length)
theorem total_leW : TotalLe leW := ⟨fun a b c h1 h2 => decide_eq_true (List.le_trans (of_decide_eq_true h1) (of_decide_eq_true h2)), fun a b => (List.le_total a b).elim (fun h => .inl (decide_eq_true h)) fun h => .inr (decide_eq_true h)⟩
theorem total_leL : TotalLe leL := ⟨fun a b c h1 h2 => decide_eq_true (Nat.le_trans (of_decide_eq_true h1) (of_decide_eq_true h2)), fun a b => (Nat.le_total a.length b.length).elim (fun h => .inl (decide_eq_true h)) fun h => .inr (decide_eq_true h)⟩
/-- the shorter one first, of one length the one whose letters are ahead -/
def Rk (a b : List Nat) : Prop := a.length < b.length ∨ (a.length = b.length ∧ a ≤ b)
theorem rk_anti {a b : List Nat} (h : Rk a b) (h' : Rk b a) : a = b := by
  rcases h with h | ⟨h, l⟩ <;> rcases h' with h' | ⟨h', l'⟩
  · omega
  · omega
  · omega
  · exact List.le_antisymm l l'
theorem two_sorts (l : List (List Nat)) : ((l.mergeSort leW).mergeSort leL).Pairwise Rk := by
  rw [List.pairwise_iff_forall_sublist]
  intro a b hs
  have h1 : leL a b = true := List.pairwise_iff_forall_sublist.mp (sort_pairwise total_leL _) hs
  have h1' := of_decide_eq_true h1
  by_cases e : a.length = b.length
  · refine .inr ⟨e, ?_⟩
    have sa : sameRank leL a a = true := sameRank_self total_leL a
    have sb : sameRank leL a b = true := by
      unfold sameRank leL
      rw [decide_eq_true (by omega), decide_eq_true (by omega)]
      rfl
    have h2 := hs.filter (sameRank leL a)
    rw [sort_stable total_leL, List.filter_cons, if_pos sa, List.filter_cons, if_pos sb, List.filter_nil] at h2
    have h3 := h2.trans List.filter_sublist
    exact of_decide_eq_true (List.pairwise_iff_forall_sublist.mp (sort_pairwise total_leW _) h3)
  · exact .inl (by omega)
theorem two_perm (l : List (List Nat)) : ((l.mergeSort leW).mergeSort leL).Perm l := (List.mergeSort_perm _ _).trans (List.mergeSort_perm _ _)
theorem rk_one {l m : List (List Nat)} (h : l.Pairwise Rk) (h' : m.Pairwise Rk) (p : l.Perm m) : l = m := List.Perm.eq_of_pairwise (fun _ _ _ _ x y => rk_anti x y) h h' p
theorem perm_of_mem : ∀ {l m : List (List Nat)}, l.Nodup → m.Nodup → (∀ z, z ∈ l ↔ z ∈ m) → l.Perm m
  | [], m, _, _, h => by
    cases m with
    | nil => exact .nil
    | cons a m => exact absurd ((h a).mpr List.mem_cons_self) List.not_mem_nil
  | a :: l, m, n1, n2, h => by
    obtain ⟨n0, n1⟩ := List.nodup_cons.mp n1
    have ha : a ∈ m := (h a).mp List.mem_cons_self
    have ih := perm_of_mem n1 (n2.erase a) fun z => by
      rw [n2.mem_erase_iff]
      constructor
      · intro hz
        exact ⟨fun e => n0 (e ▸ hz), (h z).mp (List.mem_cons_of_mem _ hz)⟩
      · rintro ⟨ne, hz⟩
        rcases List.mem_cons.mp ((h z).mpr hz) with e | e
        · exact absurd e ne
        · exact e
    exact (ih.cons a).trans (List.perm_cons_erase ha).symm
end CK

set_option Elab.async false
set_option linter.all false
set_option maxRecDepth 100000
set_option maxHeartbeats 4000000
namespace K41
open PySem PySem.Spec PyProof.Rows L2 CK
def topS (i : Nat) : Stmt := PySem.Challenge.pw_countscribe_k41_words_that_several_texts.main.body.getD i (.Pass ⟨0, 0, 0, 0⟩)
theorem sc_is_whole : FnScope ["value"] ["value"] (C8.fnScope (topS 10)) := C8.fnScope_by (by decide +kernel)
theorem sc_is_count : FnScope ["value"] ["value"] (C8.fnScope (topS 11)) := C8.fnScope_by (by decide +kernel)
theorem sc_is_within : FnScope ["value", "low", "high"] ["value", "low", "high"] (C8.fnScope (topS 12)) := C8.fnScope_by (by decide +kernel)
theorem sc_is_lettered : FnScope ["value", "most"] ["value", "most"] (C8.fnScope (topS 13)) := C8.fnScope_by (by decide +kernel)
theorem sc_need_within : FnScope ["value", "low", "high"] ["value", "low", "high"] (C8.fnScope (topS 14)) := C8.fnScope_by (by decide +kernel)
theorem sc_need_many : FnScope ["value"] ["value"] (C8.fnScope (topS 15)) := C8.fnScope_by (by decide +kernel)
theorem sc_is_form_for : FnScope ["many", "value", "number"] ["many", "value"] (C8.fnScope (topS 17)) := C8.fnScope_by (by decide +kernel)
theorem sc_plain_form : FnScope ["number", "many"] ["number", "many"] (C8.fnScope (topS 18)) := C8.fnScope_by (by decide +kernel)
theorem sc_form_value : FnScope ["form", "point", "number", "count"] ["form", "point"] (C8.fnScope (topS 19)) := C8.fnScope_by (by decide +kernel)
theorem sc_form_sum : FnScope ["one", "other", "left", "right"] ["one", "other"] (C8.fnScope (topS 20)) := C8.fnScope_by (by decide +kernel)
theorem sc_form_times : FnScope ["number", "form", "own"] ["number", "form"] (C8.fnScope (topS 21)) := C8.fnScope_by (by decide +kernel)
theorem sc_turned_word : FnScope ["word", "by", "at"] ["word", "by"] (C8.fnScope (topS 23)) := C8.fnScope_by (by decide +kernel)
theorem sc_stretch : FnScope ["word", "start", "size", "at"] ["word", "start", "size"] (C8.fnScope (topS 24)) := C8.fnScope_by (by decide +kernel)
theorem sc_alike_ahead : FnScope ["one", "other", "low", "high", "middle"] ["one", "other"] (C8.fnScope (topS 25)) := C8.fnScope_by (by decide +kernel)
theorem sc_alike_behind : FnScope ["one", "other"] ["one", "other"] (C8.fnScope (topS 26)) := C8.fnScope_by (by decide +kernel)
theorem sc_border_sizes : FnScope ["word", "sizes", "size", "at"] ["word"] (C8.fnScope (topS 27)) := C8.fnScope_by (by decide +kernel)
theorem sc_root_size : FnScope ["word", "step"] ["word"] (C8.fnScope (topS 28)) := C8.fnScope_by (by decide +kernel)
theorem sc_is_piece : FnScope ["many", "value"] ["many", "value"] (C8.fnScope (topS 33)) := C8.fnScope_by (by decide +kernel)
theorem sc_is_open_form : FnScope ["form"] ["form"] (C8.fnScope (topS 34)) := C8.fnScope_by (by decide +kernel)
theorem sc_is_power : FnScope ["piece"] ["piece"] (C8.fnScope (topS 35)) := C8.fnScope_by (by decide +kernel)
theorem sc_fixed_piece : FnScope ["word", "many"] ["word", "many"] (C8.fnScope (topS 36)) := C8.fnScope_by (by decide +kernel)
theorem sc_measure : FnScope ["pieces", "word", "form"] ["pieces"] (C8.fnScope (topS 37)) := C8.fnScope_by (by decide +kernel)
theorem sc_powers_in : FnScope ["pieces", "piece"] ["pieces"] (C8.fnScope (topS 38)) := C8.fnScope_by (by decide +kernel)
theorem sc_normal_pieces : FnScope ["pieces", "ready", "word", "form", "size"] ["pieces"] (C8.fnScope (topS 39)) := C8.fnScope_by (by decide +kernel)
theorem sc_put_fixed : FnScope ["ready", "word", "many"] ["ready", "word", "many"] (C8.fnScope (topS 40)) := C8.fnScope_by (by decide +kernel)
theorem sc_put_power : FnScope ["ready", "word", "form", "many", "behind", "ahead", "moved"] ["ready", "word", "form"] (C8.fnScope (topS 41)) := C8.fnScope_by (by decide +kernel)
theorem sc_need_pieces : FnScope ["many", "pieces", "item"] ["many", "pieces"] (C8.fnScope (topS 43)) := C8.fnScope_by (by decide +kernel)
theorem sc_need_measure : FnScope ["total"] ["total"] (C8.fnScope (topS 44)) := C8.fnScope_by (by decide +kernel)
theorem sc_normal : FnScope ["many", "pieces"] ["many", "pieces"] (C8.fnScope (topS 45)) := C8.fnScope_by (by decide +kernel)
theorem sc_OpenText___init__ : FnScope ["self", "many", "pieces"] ["self", "many", "pieces"] (C8.fnScope (inClass (topS 47) 0)) := C8.fnScope_by (by decide +kernel)
theorem sc_OpenText___eq__ : FnScope ["self", "other"] ["self", "other"] (C8.fnScope (inClass (topS 47) 1)) := C8.fnScope_by (by decide +kernel)
theorem sc_OpenText_many : FnScope ["self"] ["self"] (C8.fnScope (inClass (topS 47) 2)) := C8.fnScope_by (by decide +kernel)
theorem sc_OpenText_pieces : FnScope ["self"] ["self"] (C8.fnScope (inClass (topS 47) 3)) := C8.fnScope_by (by decide +kernel)
theorem sc_need_text : FnScope ["value"] ["value"] (C8.fnScope (topS 48)) := C8.fnScope_by (by decide +kernel)
theorem sc_unknowns : FnScope ["text", "forms", "_", "form", "at"] ["text"] (C8.fnScope (topS 49)) := C8.fnScope_by (by decide +kernel)
theorem sc_counted : FnScope ["text", "point", "word", "form"] ["text", "point"] (C8.fnScope (topS 50)) := C8.fnScope_by (by decide +kernel)
theorem sc_word_at : FnScope ["text", "point", "word", "times"] ["text", "point"] (C8.fnScope (topS 51)) := C8.fnScope_by (by decide +kernel)
theorem sc_length : FnScope ["text", "total", "word", "form"] ["text"] (C8.fnScope (topS 52)) := C8.fnScope_by (by decide +kernel)
theorem sc_need_bound_text : FnScope ["value"] ["value"] (C8.fnScope (topS 56)) := C8.fnScope_by (by decide +kernel)
theorem sc_points_up_to : FnScope ["form", "most", "rows", "number", "point", "left", "count"] ["form", "most"] (C8.fnScope (topS 57)) := C8.fnScope_by (by decide +kernel)
theorem sc_shared_words : FnScope ["texts", "most", "item", "found", "text", "own", "word"] ["texts", "most"] (C8.fnScope (topS 58)) := C8.fnScope_by (by decide +kernel)
theorem sc_words_up_to : FnScope ["text", "most", "point", "_"] ["text", "most"] (C8.fnScope (topS 59)) := C8.fnScope_by (by decide +kernel)
theorem sc_law_hash : FnScope ["_law_seed", "_law_index", "_law_mixed"] ["_law_seed", "_law_index"] (C8.fnScope (topS 61)) := C8.fnScope_by (by decide +kernel)
theorem sc_law_random : FnScope ["_law_generator_here", "_law_bound", "_law_drawn", "_law_turn"] ["_law_generator_here", "_law_bound"] (C8.fnScope (topS 62)) := C8.fnScope_by (by decide +kernel)
theorem sc_law_cell : FnScope ["_law_script", "_law_index"] ["_law_script", "_law_index"] (C8.fnScope (topS 63)) := C8.fnScope_by (by decide +kernel)
theorem sc_law_generator : FnScope ["_law_script", "_law_index", "_law_seed"] ["_law_script", "_law_index"] (C8.fnScope (topS 64)) := C8.fnScope_by (by decide +kernel)
theorem sc_law_letters : FnScope ["_law_generator_here", "_law_first", "_law_step", "_law_turn"] ["_law_generator_here"] (C8.fnScope (topS 65)) := C8.fnScope_by (by decide +kernel)
theorem sc_law_word : FnScope ["_law_generator_here", "_law_letters_here", "_law_least", "_law_most", "_law_many", "_law_turn"] ["_law_generator_here", "_law_letters_here", "_law_least", "_law_most"] (C8.fnScope (topS 66)) := C8.fnScope_by (by decide +kernel)
theorem sc_law_plain : FnScope ["_law_many", "_law_number"] ["_law_many", "_law_number"] (C8.fnScope (topS 67)) := C8.fnScope_by (by decide +kernel)
theorem sc_law_form : FnScope ["_law_generator_here", "_law_many", "_law_constant", "_law_most", "_law_turn"] ["_law_generator_here", "_law_many", "_law_constant", "_law_most"] (C8.fnScope (topS 68)) := C8.fnScope_by (by decide +kernel)
theorem sc_law_piece : FnScope ["_law_generator_here", "_law_many", "_law_letters_here", "_law_core", "_law_most", "_law_way", "_law_turn"] ["_law_generator_here", "_law_many", "_law_letters_here", "_law_core", "_law_most"] (C8.fnScope (topS 69)) := C8.fnScope_by (by decide +kernel)
theorem sc_law_value : FnScope ["_law_form_here", "_law_point", "_law_number", "_law_count"] ["_law_form_here", "_law_point"] (C8.fnScope (topS 70)) := C8.fnScope_by (by decide +kernel)
theorem sc_law_write : FnScope ["_law_pieces", "_law_point", "_law_word_here", "_law_form_here"] ["_law_pieces", "_law_point"] (C8.fnScope (topS 71)) := C8.fnScope_by (by decide +kernel)
theorem sc_law_standing : FnScope ["_law_generator_here", "_law_many", "_law_letters_here", "_law_core", "_law_pieces", "_law_turn", "_law_at", "_law_form_here", "_law_place", "_law_spot"] ["_law_generator_here", "_law_many", "_law_letters_here", "_law_core"] (C8.fnScope (topS 72)) := C8.fnScope_by (by decide +kernel)
theorem sc_law_box : FnScope ["_law_many", "_law_most", "_law_found", "_law_turn", "_law_grown", "_law_point", "_law_count"] ["_law_many", "_law_most"] (C8.fnScope (topS 73)) := C8.fnScope_by (by decide +kernel)
theorem sc_law_words : FnScope ["_law_many", "_law_pieces", "_law_most", "_law_words_here", "_law_point", "_law_word_here"] ["_law_many", "_law_pieces", "_law_most"] (C8.fnScope (topS 74)) := C8.fnScope_by (by decide +kernel)
theorem sc_law_due : FnScope ["_law_told", "_law_most", "_law_tables", "_law_many", "_law_pieces", "_law_found", "_law_word_here", "_law_table"] ["_law_told", "_law_most"] (C8.fnScope (topS 75)) := C8.fnScope_by (by decide +kernel)
theorem sc_law_right : FnScope ["_law_generator_here", "_law_letters_here", "_law_core", "_law_most", "_law_told", "_law_turn", "_law_many", "_law_texts", "_law_pieces", "_law_given", "_law_due_here", "_law_found", "_law_at", "_law_fresh", "_law_text"] ["_law_generator_here"] (C8.fnScope (topS 76)) := C8.fnScope_by (by decide +kernel)
theorem sc_law : FnScope ["_law_script", "_law_index", "_law_letter", "_law_many"] ["_law_script"] (C8.fnScope (topS 77)) := C8.fnScope_by (by decide +kernel)
structure Txt (K : PySem.W.Frag) (mg : Str → Option Value) (C : Addr) : Prop where
  k_OpenText : ClF K mg "OpenText" C
  f_many : NoAttr K C "_many"
  f_pieces : NoAttr K C "_pieces"
  d_is_whole : DefF K mg "is_whole" (topS 10) ["value"]
  d_is_count : DefF K mg "is_count" (topS 11) ["value"]
  d_is_within : DefF K mg "is_within" (topS 12) ["value", "low", "high"]
  d_is_lettered : DefF K mg "is_lettered" (topS 13) ["value", "most"]
  d_need_within : DefF K mg "need_within" (topS 14) ["value", "low", "high"]
  d_need_many : DefF K mg "need_many" (topS 15) ["value"]
  d_is_form_for : DefF K mg "is_form_for" (topS 17) ["many", "value"]
  d_plain_form : DefF K mg "plain_form" (topS 18) ["number", "many"]
  d_form_value : DefF K mg "form_value" (topS 19) ["form", "point"]
  d_form_sum : DefF K mg "form_sum" (topS 20) ["one", "other"]
  d_form_times : DefF K mg "form_times" (topS 21) ["number", "form"]
  d_turned_word : DefF K mg "turned_word" (topS 23) ["word", "by"]
  d_stretch : DefF K mg "stretch" (topS 24) ["word", "start", "size"]
  d_alike_ahead : DefF K mg "alike_ahead" (topS 25) ["one", "other"]
  d_alike_behind : DefF K mg "alike_behind" (topS 26) ["one", "other"]
  d_border_sizes : DefF K mg "border_sizes" (topS 27) ["word"]
  d_root_size : DefF K mg "root_size" (topS 28) ["word"]
  d_is_piece : DefF K mg "is_piece" (topS 33) ["many", "value"]
  d_is_open_form : DefF K mg "is_open_form" (topS 34) ["form"]
  d_is_power : DefF K mg "is_power" (topS 35) ["piece"]
  d_fixed_piece : DefF K mg "fixed_piece" (topS 36) ["word", "many"]
  d_measure : DefF K mg "measure" (topS 37) ["pieces"]
  d_powers_in : DefF K mg "powers_in" (topS 38) ["pieces"]
  d_normal_pieces : DefF K mg "normal_pieces" (topS 39) ["pieces"]
  d_put_fixed : DefF K mg "put_fixed" (topS 40) ["ready", "word", "many"]
  d_put_power : DefF K mg "put_power" (topS 41) ["ready", "word", "form"]
  d_need_pieces : DefF K mg "need_pieces" (topS 43) ["many", "pieces"]
  d_need_measure : DefF K mg "need_measure" (topS 44) ["total"]
  d_normal : DefF K mg "normal" (topS 45) ["many", "pieces"]
  d_OpenText___init__ : MetF K C "__init__" "OpenText.__init__" (inClass (topS 47) 0) ["self", "many", "pieces"]
  d_OpenText___eq__ : MetF K C "__eq__" "OpenText.__eq__" (inClass (topS 47) 1) ["self", "other"]
  d_OpenText_many : MetF K C "many" "OpenText.many" (inClass (topS 47) 2) ["self"]
  d_OpenText_pieces : MetF K C "pieces" "OpenText.pieces" (inClass (topS 47) 3) ["self"]
  d_need_text : DefF K mg "need_text" (topS 48) ["value"]
  d_unknowns : DefF K mg "unknowns" (topS 49) ["text"]
  d_counted : DefF K mg "counted" (topS 50) ["text", "point"]
  d_word_at : DefF K mg "word_at" (topS 51) ["text", "point"]
  d_length : DefF K mg "length" (topS 52) ["text"]
  d_need_bound_text : DefF K mg "need_bound_text" (topS 56) ["value"]
  d_points_up_to : DefF K mg "points_up_to" (topS 57) ["form", "most"]
  d_shared_words : DefF K mg "shared_words" (topS 58) ["texts", "most"]
  d_words_up_to : DefF K mg "words_up_to" (topS 59) ["text", "most"]
  d_law_hash : DefF K mg "_law_hash" (topS 61) ["_law_seed", "_law_index"]
  d_law_random : DefF K mg "_law_random" (topS 62) ["_law_generator_here", "_law_bound"]
  d_law_cell : DefF K mg "_law_cell" (topS 63) ["_law_script", "_law_index"]
  d_law_generator : DefF K mg "_law_generator" (topS 64) ["_law_script", "_law_index"]
  d_law_letters : DefF K mg "_law_letters" (topS 65) ["_law_generator_here"]
  d_law_word : DefF K mg "_law_word" (topS 66) ["_law_generator_here", "_law_letters_here", "_law_least", "_law_most"]
  d_law_plain : DefF K mg "_law_plain" (topS 67) ["_law_many", "_law_number"]
  d_law_form : DefF K mg "_law_form" (topS 68) ["_law_generator_here", "_law_many", "_law_constant", "_law_most"]
  d_law_piece : DefF K mg "_law_piece" (topS 69) ["_law_generator_here", "_law_many", "_law_letters_here", "_law_core", "_law_most"]
  d_law_value : DefF K mg "_law_value" (topS 70) ["_law_form_here", "_law_point"]
  d_law_write : DefF K mg "_law_write" (topS 71) ["_law_pieces", "_law_point"]
  d_law_standing : DefF K mg "_law_standing" (topS 72) ["_law_generator_here", "_law_many", "_law_letters_here", "_law_core"]
  d_law_box : DefF K mg "_law_box" (topS 73) ["_law_many", "_law_most"]
  d_law_words : DefF K mg "_law_words" (topS 74) ["_law_many", "_law_pieces", "_law_most"]
  d_law_due : DefF K mg "_law_due" (topS 75) ["_law_told", "_law_most"]
  d_law_right : DefF K mg "_law_right" (topS 76) ["_law_generator_here"]
  d_law : DefF K mg "law" (topS 77) ["_law_script"]
  m_all : mg "all" = none
  m_any : mg "any" = none
  m_bool : mg "bool" = none
  m_int : mg "int" = none
  m_isinstance : mg "isinstance" = none
  m_len : mg "len" = none
  m_list : mg "list" = none
  m_max : mg "max" = none
  m_min : mg "min" = none
  m_range : mg "range" = none
  m_sorted : mg "sorted" = none
  m_str : mg "str" = none
  m_sum : mg "sum" = none
  m_tuple : mg "tuple" = none
  m_zip : mg "zip" = none
  k_MOST_LETTERS_SHARED : ∃ u, mg "MOST_LETTERS_SHARED" = some u ∧ RelV (.int 40) u
  k_MOST_MEASURE : ∃ u, mg "MOST_MEASURE" = some u ∧ RelV (.int 2000) u
  k_MOST_PIECES : ∃ u, mg "MOST_PIECES" = some u ∧ RelV (.int 5000) u
  k_MOST_PIECE_LETTERS : ∃ u, mg "MOST_PIECE_LETTERS" = some u ∧ RelV (.int 2000) u
  k_MOST_TEXTS : ∃ u, mg "MOST_TEXTS" = some u ∧ RelV (.int 4) u
  k_MOST_UNKNOWNS : ∃ u, mg "MOST_UNKNOWNS" = some u ∧ RelV (.int 3) u
end K41

set_option linter.all false
/-! words as lists of numbers: beginnings, borders, periods, powers, roots -/
namespace WM
abbrev W := List Nat
/-! ### beginnings in common -/
def lcp : W → W → Nat
  | x :: xs, y :: ys => if x = y then lcp xs ys + 1 else 0
  | _, _ => 0
theorem lcp_le : ∀ a b : W, lcp a b ≤ a.length ∧ lcp a b ≤ b.length
  | [], b => by simp [lcp]
  | _ :: _, [] => by simp [lcp]
  | x :: xs, y :: ys => by
    have := lcp_le xs ys
    unfold lcp
    split <;> simp <;> omega
theorem lcp_take : ∀ (a b : W) (k : Nat), k ≤ lcp a b → a.take k = b.take k
  | _, _, 0, _ => by simp
  | [], b, k + 1, h => by simp [lcp] at h
  | _ :: _, [], k + 1, h => by simp [lcp] at h
  | x :: xs, y :: ys, k + 1, h => by
    unfold lcp at h
    split at h
    · rename_i e
      subst e
      rw [List.take_succ_cons, List.take_succ_cons, lcp_take xs ys k (by omega)]
    · omega
theorem le_lcp : ∀ (a b : W) (k : Nat), k ≤ a.length → k ≤ b.length → a.take k = b.take k → k ≤ lcp a b
  | _, _, 0, _, _, _ => Nat.zero_le _
  | [], b, k + 1, h, _, _ => by simp at h
  | _ :: _, [], k + 1, _, h, _ => by simp at h
  | x :: xs, y :: ys, k + 1, h1, h2, h => by
    rw [List.take_succ_cons, List.take_succ_cons] at h
    injection h with e1 e2
    subst e1
    have := le_lcp xs ys k (by simpa using h1) (by simpa using h2) e2
    unfold lcp
    rw [if_pos rfl]
    omega
theorem lcp_iff {a b : W} {k : Nat} (h1 : k ≤ a.length) (h2 : k ≤ b.length) : a.take k = b.take k ↔ k ≤ lcp a b := ⟨le_lcp a b k h1 h2, lcp_take a b k⟩

/-! ### periods and borders -/
/-- letters that stand p apart are the same -/
def Per (p : Nat) (w : W) : Prop := ∀ i, i + p < w.length → w[i]? = w[i + p]?
/-- the first b letters are the last b -/
def Bor (b : Nat) (w : W) : Prop := b ≤ w.length ∧ ∀ i, i < b → w[i]? = w[w.length - b + i]?
instance (b : Nat) (w : W) : Decidable (Bor b w) := by unfold Bor; exact inferInstance
theorem bor_per {b : Nat} {w : W} (h : Bor b w) : Per (w.length - b) w := fun i hi => by
  rw [h.2 i (by have := h.1; omega), Nat.add_comm i]
theorem per_bor {p : Nat} {w : W} (hp : p ≤ w.length) (h : Per p w) : Bor (w.length - p) w := by
  refine ⟨Nat.sub_le _ _, fun i hi => ?_⟩
  rw [h i (by omega)]
  congr 1
  omega
theorem per_zero (w : W) : Per 0 w := fun i _ => rfl
theorem per_len {p : Nat} {w : W} (h : w.length ≤ p) : Per p w := fun i hi => by omega
theorem per_take {p k : Nat} {w : W} (h : Per p w) : Per p (w.take k) := fun i hi => by
  rw [List.length_take] at hi
  rw [List.getElem?_take_of_lt (by omega), List.getElem?_take_of_lt (by omega)]
  exact h i (by omega)
theorem per_mul {p : Nat} {w : W} (h : Per p w) : ∀ (k i : Nat), i + p * k < w.length → w[i]? = w[i + p * k]?
  | 0, i, _ => by simp
  | k + 1, i, hi => by
    rw [Nat.mul_succ] at hi ⊢
    rw [per_mul h k i (by omega), h (i + p * k) (by omega)]
    congr 1
    omega
/-- Fine and Wilf's, the weak form -/
theorem per_sub {p q : Nat} {w : W} (hpq : p ≤ q) (hp : Per p w) (hq : Per q w) (hl : p + q ≤ w.length) : Per (q - p) w := fun i hi => by
  by_cases h : i + q < w.length
  · rw [hq i h]
    have := hp (i + (q - p)) (by omega)
    rw [this]
    congr 1
    omega
  · have h1 : p ≤ i := by omega
    have a := hp (i - p) (by omega)
    have b := hq (i - p) (by omega)
    rw [show i - p + p = i by omega] at a
    rw [show i - p + q = i + (q - p) by omega] at b
    rw [← a, b]
theorem fine_wilf : ∀ (n p q : Nat) (w : W), p + q ≤ n → Per p w → Per q w → p + q ≤ w.length → Per (Nat.gcd p q) w
  | 0, p, q, w, hn, hp, hq, _ => by
    have e1 : p = 0 := by omega
    have e2 : q = 0 := by omega
    subst e1 e2
    exact hp
  | n + 1, p, q, w, hn, hp, hq, hl => by
    by_cases p0 : p = 0
    · subst p0
      rw [Nat.gcd_zero_left]
      exact hq
    by_cases q0 : q = 0
    · subst q0
      rw [Nat.gcd_zero_right]
      exact hp
    by_cases h : p ≤ q
    · have := fine_wilf n p (q - p) w (by omega) hp (per_sub h hp hq hl) (by omega)
      rw [Nat.gcd_sub_self_right h] at this
      exact this
    · have := fine_wilf n (p - q) q w (by omega) (per_sub (by omega) hq hp (by omega)) hq (by omega)
      rw [Nat.gcd_sub_self_left (by omega)] at this
      exact this
theorem per_gcd {p q : Nat} {w : W} (hp : Per p w) (hq : Per q w) (hl : p + q ≤ w.length) : Per (Nat.gcd p q) w := fine_wilf _ p q w (Nat.le_refl _) hp hq hl

/-! ### the longest border -/
def lbF (w : W) : Nat → Nat
  | 0 => 0
  | b + 1 => if Bor (b + 1) w then b + 1 else lbF w b
/-- how long the longest border is, besides the word itself -/
def lb (w : W) : Nat := lbF w (w.length - 1)
theorem bor_zero (w : W) : Bor 0 w := ⟨Nat.zero_le _, fun i h => by omega⟩
theorem lbF_bor (w : W) : ∀ b, Bor (lbF w b) w ∧ lbF w b ≤ b
  | 0 => ⟨bor_zero w, Nat.le_refl _⟩
  | b + 1 => by
    unfold lbF
    split
    · rename_i h
      exact ⟨h, Nat.le_refl _⟩
    · have := lbF_bor w b
      exact ⟨this.1, by omega⟩
theorem lbF_max (w : W) : ∀ b c, c ≤ b → Bor c w → c ≤ lbF w b
  | 0, c, h, _ => by omega
  | b + 1, c, h, hc => by
    unfold lbF
    split
    · omega
    · rename_i hn
      by_cases e : c = b + 1
      · subst e
        exact absurd hc hn
      · exact lbF_max w b c (by omega) hc
theorem lb_bor (w : W) : Bor (lb w) w := (lbF_bor w _).1
theorem lb_lt {w : W} (h : w ≠ []) : lb w < w.length := by
  have := (lbF_bor w (w.length - 1)).2
  have := List.length_pos_iff.mpr h
  unfold lb
  omega
theorem lb_max {w : W} {c : Nat} (h : c < w.length) (hc : Bor c w) : c ≤ lb w := lbF_max w _ c (by omega) hc
/-- a border of a border is a border; a shorter border is one of the longer -/
theorem bor_take {w : W} {b c : Nat} (hb : Bor b w) (hc : c ≤ b) : Bor c w ↔ Bor c (w.take b) := by
  have l : (w.take b).length = b := by rw [List.length_take]; have := hb.1; omega
  constructor
  · intro h
    refine ⟨by rw [l]; exact hc, fun i hi => ?_⟩
    rw [l, List.getElem?_take_of_lt (by omega), List.getElem?_take_of_lt (by omega), h.2 i hi, hb.2 (b - c + i) (by omega)]
    congr 1
    have := hb.1
    omega
  · intro h
    refine ⟨Nat.le_trans hc hb.1, fun i hi => ?_⟩
    have := h.2 i hi
    rw [l, List.getElem?_take_of_lt (by omega), List.getElem?_take_of_lt (by omega)] at this
    rw [this, hb.2 (b - c + i) (by omega)]
    congr 1
    have := hb.1
    omega
/-- a border, one letter longer -/
theorem bor_succ {w : W} {n b : Nat} (hn : n < w.length) (hb : b < n) : Bor (b + 1) (w.take (n + 1)) ↔ Bor b (w.take n) ∧ w[b]? = w[n]? := by
  have l1 : (w.take (n + 1)).length = n + 1 := by rw [List.length_take]; omega
  have l0 : (w.take n).length = n := by rw [List.length_take]; omega
  constructor
  · intro h
    refine ⟨⟨by omega, fun i hi => ?_⟩, ?_⟩
    · have := h.2 i (by omega)
      rw [l1, List.getElem?_take_of_lt (by omega), List.getElem?_take_of_lt (by omega)] at this
      rw [l0, List.getElem?_take_of_lt (by omega), List.getElem?_take_of_lt (by omega), this]
      congr 1
      omega
    · have := h.2 b (by omega)
      rw [l1, List.getElem?_take_of_lt (by omega), List.getElem?_take_of_lt (by omega)] at this
      rw [this]
      congr 1
      omega
  · rintro ⟨h, e⟩
    refine ⟨by omega, fun i hi => ?_⟩
    rw [l1, List.getElem?_take_of_lt (by omega), List.getElem?_take_of_lt (by omega)]
    by_cases z : i < b
    · have := h.2 i z
      rw [l0, List.getElem?_take_of_lt (by omega), List.getElem?_take_of_lt (by omega)] at this
      rw [this]
      congr 1
      omega
    · have e1 : i = b := by omega
      subst e1
      rw [e]
      congr 1
      omega
/-- the walk down the borders: the state at a turn of the inner loop -/
def Cand (w : W) (n s : Nat) : Prop := s < n ∧ Bor s (w.take n) ∧ ∀ b, b < n → Bor b (w.take n) → w[b]? = w[n]? → b ≤ s
theorem cand_start {w : W} {n : Nat} (hn : n ≤ w.length) (h0 : 0 < n) : Cand w n (lb (w.take n)) := by
  have l0 : (w.take n).length = n := by rw [List.length_take]; omega
  have ne : w.take n ≠ [] := fun z => by rw [z] at l0; simp at l0; omega
  refine ⟨by have := lb_lt ne; omega, lb_bor _, fun b hb h _ => lb_max (by omega) h⟩
theorem cand_down {w : W} {n s : Nat} (hn : n ≤ w.length) (h : Cand w n s) (hs : 0 < s) (hd : w[s]? ≠ w[n]?) : Cand w n (lb (w.take s)) := by
  obtain ⟨h1, h2, h3⟩ := h
  have ls : (w.take s).length = s := by rw [List.length_take]; omega
  have ne : w.take s ≠ [] := fun z => by rw [z] at ls; simp at ls; omega
  have lt := lb_lt ne
  have tt : (w.take n).take s = w.take s := by rw [List.take_take]; congr 1; omega
  have bs : Bor (lb (w.take s)) (w.take n) := by
    rw [bor_take h2 (by omega), tt]
    exact lb_bor _
  refine ⟨by omega, bs, fun b hb hB e => ?_⟩
  have le := h3 b hb hB e
  have ne2 : b ≠ s := fun z => hd (by rw [← z]; exact e)
  have : Bor b (w.take s) := by
    rw [← tt, ← bor_take h2 (by omega)]
    exact hB
  exact lb_max (by omega) this
theorem cand_hit {w : W} {n s : Nat} (hn : n < w.length) (h : Cand w n s) (e : w[s]? = w[n]?) : lb (w.take (n + 1)) = s + 1 := by
  obtain ⟨h1, h2, h3⟩ := h
  have l1 : (w.take (n + 1)).length = n + 1 := by rw [List.length_take]; omega
  have ne : w.take (n + 1) ≠ [] := fun z => by rw [z] at l1; simp at l1
  have hB : Bor (s + 1) (w.take (n + 1)) := (bor_succ hn h1).mpr ⟨h2, e⟩
  have le := lb_max (by omega) hB
  have lt := lb_lt ne
  have lB := lb_bor (w.take (n + 1))
  generalize lb (w.take (n + 1)) = x at le lt lB ⊢
  cases x with
  | zero => omega
  | succ x =>
    obtain ⟨a, b⟩ := (bor_succ hn (by omega)).mp lB
    have := h3 x (by omega) a b
    omega
theorem cand_miss {w : W} {n : Nat} (hn : n < w.length) (h : Cand w n 0) (e : w[0]? ≠ w[n]?) : lb (w.take (n + 1)) = 0 := by
  obtain ⟨h1, h2, h3⟩ := h
  have l1 : (w.take (n + 1)).length = n + 1 := by rw [List.length_take]; omega
  have ne : w.take (n + 1) ≠ [] := fun z => by rw [z] at l1; simp at l1
  have lt := lb_lt ne
  have lB := lb_bor (w.take (n + 1))
  generalize lb (w.take (n + 1)) = x at lt lB ⊢
  cases x with
  | zero => rfl
  | succ x =>
    obtain ⟨a, b⟩ := (bor_succ hn (by omega)).mp lB
    have := h3 x (by omega) a b
    have z : x = 0 := by omega
    subst z
    exact absurd b e
theorem lb_one {w : W} : lb (w.take 1) = 0 := by
  cases w with
  | nil => simp [lb, lbF]
  | cons x r => simp [lb, lbF]

/-! ### powers and roots -/
/-- w taken k times -/
def pw (w : W) (k : Nat) : W := (List.replicate k w).flatten
theorem pw_succ (w : W) (k : Nat) : pw w (k + 1) = w ++ pw w k := by unfold pw; rw [List.replicate_succ, List.flatten_cons]
theorem pw_zero (w : W) : pw w 0 = [] := rfl
theorem pw_len (w : W) : ∀ k, (pw w k).length = w.length * k
  | 0 => by simp [pw_zero]
  | k + 1 => by rw [pw_succ, List.length_append, pw_len w k, Nat.mul_succ, Nat.add_comm]
theorem pw_add (w : W) : ∀ a b, pw w (a + b) = pw w a ++ pw w b
  | 0, b => by rw [Nat.zero_add, pw_zero, List.nil_append]
  | a + 1, b => by rw [show a + 1 + b = a + b + 1 by omega, pw_succ, pw_add w a b, pw_succ, List.append_assoc]
theorem pw_get {w : W} (h : w ≠ []) : ∀ (k i : Nat), i < w.length * k → (pw w k)[i]? = w[i % w.length]?
  | 0, i, hi => by simp at hi
  | k + 1, i, hi => by
    have n0 := List.length_pos_iff.mpr h
    rw [pw_succ]
    by_cases z : i < w.length
    · rw [List.getElem?_append_left z, Nat.mod_eq_of_lt z]
    · have hm : w.length * (k + 1) = w.length * k + w.length := Nat.mul_succ ..
      rw [List.getElem?_append_right (by omega), pw_get h k _ (by omega), Nat.mod_eq_sub_mod (show i ≥ w.length by omega)]
/-- a word with a period that divides its length is a power -/
theorem per_pw {w : W} {d : Nat} (hd : 0 < d) (hp : Per d w) (hv : d ∣ w.length) : w = pw (w.take d) (w.length / d) := by
  obtain ⟨k, hk⟩ := hv
  by_cases k0 : k = 0
  · subst k0
    rw [Nat.mul_zero] at hk
    rw [List.length_eq_zero_iff.mp hk]
    simp [pw]
  have dl : d ≤ w.length := by rw [hk]; exact Nat.le_mul_of_pos_right d (by omega)
  have lt : (w.take d).length = d := by rw [List.length_take]; omega
  have ne : w.take d ≠ [] := fun z => by rw [z] at lt; simp at lt; omega
  have ek : w.length / d = k := by rw [hk]; exact Nat.mul_div_cancel_left k hd
  rw [ek]
  refine List.ext_getElem? fun i => ?_
  by_cases hi : i < w.length
  · rw [pw_get ne k i (by rw [lt, ← hk]; exact hi), lt, List.getElem?_take_of_lt (Nat.mod_lt i hd)]
    have := per_mul hp (i / d) (i % d) (by rw [Nat.mod_add_div]; exact hi)
    rw [this, Nat.mod_add_div]
  · rw [List.getElem?_eq_none (by omega), List.getElem?_eq_none (by rw [pw_len, lt, ← hk]; omega)]
theorem pw_per {u : W} (h : u ≠ []) (k : Nat) : Per u.length (pw u k) := fun i hi => by
  rw [pw_len] at hi
  rw [pw_get h k i (by omega), pw_get h k _ hi, Nat.add_mod_right]
/-- not empty, and no shorter word taken several times -/
def Prim (w : W) : Prop := w ≠ [] ∧ ∀ d, 0 < d → d ∣ w.length → Per d w → d = w.length
theorem prim_pw {w u : W} {k : Nat} (h : Prim w) (e : w = pw u k) : k = 1 ∧ u = w := by
  have une : u ≠ [] := fun z => by
    subst z
    apply h.1
    rw [e]
    simp [pw]
  have l : w.length = u.length * k := by rw [e, pw_len]
  have := h.2 u.length (List.length_pos_iff.mpr une) ⟨k, l⟩ (by rw [e]; exact pw_per une k)
  have n0 := List.length_pos_iff.mpr une
  have k1 : k = 1 := by
    rw [this] at l
    have : w.length * 1 = w.length * k := by omega
    exact (Nat.eq_of_mul_eq_mul_left (by omega) this).symm
  subst k1
  exact ⟨rfl, by rw [e, pw_succ, pw_zero, List.append_nil]⟩
/-- the root's length, as the program finds it -/
def rootN (w : W) : Nat := if w.length % (w.length - lb w) = 0 then w.length - lb w else w.length
theorem rootN_dvd (w : W) : rootN w ∣ w.length := by
  unfold rootN
  split
  · rename_i h
    exact Nat.dvd_of_mod_eq_zero h
  · exact Nat.dvd_refl _
theorem rootN_pos {w : W} (h : w ≠ []) : 0 < rootN w := by
  have := lb_lt h
  have := List.length_pos_iff.mpr h
  unfold rootN
  split <;> omega
theorem rootN_le {w : W} (h : w ≠ []) : rootN w ≤ w.length := Nat.le_of_dvd (List.length_pos_iff.mpr h) (rootN_dvd w)
theorem rootN_per (w : W) : Per (rootN w) w := by
  unfold rootN
  split
  · exact bor_per (lb_bor w)
  · exact per_len (Nat.le_refl _)
/-- no period is less than the program's step -/
theorem step_least {w : W} {p : Nat} (hp : 0 < p) (hl : p ≤ w.length) (h : Per p w) : w.length - lb w ≤ p := by
  have := lb_max (c := w.length - p) (by omega) (per_bor hl h)
  omega
/-- a period of the word that divides its length is a multiple of the root's -/
theorem root_div {w : W} (hw : w ≠ []) {d : Nat} (hd : 0 < d) (hv : d ∣ w.length) (h : Per d w) : rootN w ∣ d := by
  have n0 := List.length_pos_iff.mpr hw
  have dl := Nat.le_of_dvd n0 hv
  have lt := lb_lt hw
  have s := step_least hd dl h
  by_cases e : d = w.length
  · rw [e]
    exact rootN_dvd w
  · have two : d + d ≤ w.length := by
      obtain ⟨k, hk⟩ := hv
      have : k ≠ 0 := fun z => by subst z; omega
      have : k ≠ 1 := fun z => by subst z; omega
      have : d * 2 ≤ d * k := Nat.mul_le_mul_left d (by omega)
      omega
    have g := per_gcd (bor_per (lb_bor w)) h (by omega)
    have gp : 0 < Nat.gcd (w.length - lb w) d := Nat.gcd_pos_of_pos_right _ hd
    have g1 := step_least gp (Nat.le_trans (Nat.gcd_le_right _ hd) dl) g
    have g2 : Nat.gcd (w.length - lb w) d ∣ w.length - lb w := Nat.gcd_dvd_left _ _
    have g3 : Nat.gcd (w.length - lb w) d = w.length - lb w := Nat.le_antisymm (Nat.le_of_dvd (by omega) g2) g1
    have g4 : w.length - lb w ∣ d := by rw [← g3]; exact Nat.gcd_dvd_right _ _
    have : w.length % (w.length - lb w) = 0 := Nat.mod_eq_zero_of_dvd (Nat.dvd_trans g4 hv)
    unfold rootN
    rw [if_pos this]
    exact g4
theorem root_prim {w : W} (hw : w ≠ []) : Prim (w.take (rootN w)) := by
  have r0 := rootN_pos hw
  have rl := rootN_le hw
  have l : (w.take (rootN w)).length = rootN w := by rw [List.length_take]; omega
  refine ⟨fun z => by rw [z] at l; simp at l; omega, fun d hd hv h => ?_⟩
  rw [l] at hv ⊢
  -- a period of the root that divides it is one of the word
  have hw' : Per d w := fun i hi => by
    have mul : ∀ j, j < w.length → w[j]? = w[j % rootN w]? := fun j hj => by
      have := per_mul (rootN_per w) (j / rootN w) (j % rootN w) (by rw [Nat.mod_add_div]; exact hj)
      rw [Nat.mod_add_div] at this
      exact this.symm
    have inner : ∀ j, j < rootN w → w[j]? = w[j % d]? := fun j hj => by
      have := per_mul h (j / d) (j % d) (by rw [Nat.mod_add_div, l]; exact hj)
      rw [Nat.mod_add_div, List.getElem?_take_of_lt hj, List.getElem?_take_of_lt (by have := Nat.mod_le j d; omega)] at this
      exact this.symm
    rw [mul i (by omega), mul (i + d) hi, inner _ (Nat.mod_lt _ r0), inner ((i + d) % rootN w) (Nat.mod_lt _ r0)]
    congr 1
    rw [Nat.mod_mod_of_dvd _ hv, Nat.mod_mod_of_dvd _ hv, Nat.add_mod_right]
  exact Nat.dvd_antisymm hv (root_div hw hd (Nat.dvd_trans hv (rootN_dvd w)) hw')
theorem root_pw {w : W} (hw : w ≠ []) : w = pw (w.take (rootN w)) (w.length / rootN w) := per_pw (rootN_pos hw) (rootN_per w) (rootN_dvd w)
end WM

set_option linter.all false
set_option maxRecDepth 100000
namespace NM
open WM
/-! ### the last letters of a word taken without end; rotations -/
theorem mod_of {a b L x y : Nat} (h : a + L * x = b + L * y) : a % L = b % L := by
  rw [← Nat.add_mul_mod_self_left a L x, h, Nat.add_mul_mod_self_left]
def rotR (u : W) (k : Nat) : W := u.drop (u.length - k % u.length) ++ u.take (u.length - k % u.length)
def tailE (u : W) (k : Nat) : W := u.drop (u.length - k % u.length) ++ pw u (k / u.length)
theorem tailE_len {u : W} (h : u ≠ []) (k : Nat) : (tailE u k).length = k := by
  have n0 := List.length_pos_iff.mpr h
  have := Nat.mod_lt k n0
  have := Nat.mod_add_div k u.length
  unfold tailE
  rw [List.length_append, List.length_drop, pw_len]
  omega
theorem tailE_get {u : W} (h : u ≠ []) {k i : Nat} (hi : i < k) : (tailE u k)[i]? = u[(i + (u.length - k % u.length)) % u.length]? := by
  have n0 := List.length_pos_iff.mpr h
  have hm := Nat.mod_lt k n0
  have hd := Nat.mod_add_div k u.length
  unfold tailE
  by_cases z : i < k % u.length
  · rw [List.getElem?_append_left (by rw [List.length_drop]; omega), List.getElem?_drop, Nat.mod_eq_of_lt (show i + (u.length - k % u.length) < u.length by omega), Nat.add_comm]
  · rw [List.getElem?_append_right (by rw [List.length_drop]; omega), List.length_drop, pw_get h _ _ (by omega)]
    congr 1
    exact mod_of (x := 1) (y := 0) (by omega)
theorem tailE_drop {u : W} (h : u ≠ []) {n k : Nat} (hk : k ≤ n) : (tailE u n).drop (n - k) = tailE u k := by
  have n0 := List.length_pos_iff.mpr h
  refine List.ext_getElem? fun i => ?_
  by_cases hi : i < k
  · rw [List.getElem?_drop, tailE_get h (by omega), tailE_get h hi]
    congr 1
    have h1 := Nat.mod_add_div n u.length
    have h2 := Nat.mod_add_div k u.length
    have h3 := Nat.mod_lt n n0
    have h4 := Nat.mod_lt k n0
    exact mod_of (x := k / u.length) (y := n / u.length) (by omega)
  · rw [List.getElem?_eq_none (by rw [List.length_drop, tailE_len h]; omega), List.getElem?_eq_none (by rw [tailE_len h]; omega)]
theorem pw_comm (p s : W) : ∀ j, pw (s ++ p) j ++ s = s ++ pw (p ++ s) j
  | 0 => by simp [pw]
  | j + 1 => by
    rw [pw_succ, pw_succ, List.append_assoc, pw_comm p s j]
    simp [List.append_assoc]
theorem rotR_split (u : W) (k : Nat) : rotR u k = u.drop (u.length - k % u.length) ++ u.take (u.length - k % u.length) := rfl
theorem rotR_len (u : W) (k : Nat) : (rotR u k).length = u.length := by
  unfold rotR
  rw [List.length_append, List.length_drop, List.length_take]
  omega
/-- what is moved behind a power, and the power turned -/
theorem move_pw (u : W) (k j : Nat) : pw (rotR u k) j ++ tailE u k = tailE u k ++ pw u j := by
  have e : u.take (u.length - k % u.length) ++ u.drop (u.length - k % u.length) = u := List.take_append_drop _ _
  unfold tailE rotR
  rw [← List.append_assoc, pw_comm, e, List.append_assoc, ← pw_add, List.append_assoc, ← pw_add, Nat.add_comm]
theorem rotR_get {u : W} (h : u ≠ []) (k : Nat) {i : Nat} (hi : i < u.length) : (rotR u k)[i]? = u[(i + (u.length - k % u.length)) % u.length]? := by
  have n0 := List.length_pos_iff.mpr h
  have hm := Nat.mod_lt k n0
  unfold rotR
  by_cases z : i < k % u.length
  · rw [List.getElem?_append_left (by rw [List.length_drop]; omega), List.getElem?_drop, Nat.mod_eq_of_lt (show i + (u.length - k % u.length) < u.length by omega), Nat.add_comm]
  · rw [List.getElem?_append_right (by rw [List.length_drop]; omega), List.length_drop, List.getElem?_take_of_lt (by omega)]
    congr 1
    rw [show i - (u.length - (u.length - k % u.length)) = i - k % u.length by omega]
    have := mod_of (a := i + (u.length - k % u.length)) (b := i - k % u.length) (L := u.length) (x := 0) (y := 1) (by omega)
    rw [this, Nat.mod_eq_of_lt (show i - k % u.length < u.length by omega)]
theorem rotR_ne {u : W} (h : u ≠ []) (k : Nat) : rotR u k ≠ [] := fun z => by
  have := rotR_len u k
  rw [z] at this
  exact h (List.length_eq_zero_iff.mp this.symm)
theorem rotR_zero (u : W) : rotR u 0 = u := by
  unfold rotR
  simp
theorem last_get {w : W} (h : w ≠ []) : w.getLast? = w[w.length - 1]? := List.getLast?_eq_getElem? ..
/-- the last letter of the turned word is the letter ahead of what was moved -/
theorem rotR_last {u : W} (h : u ≠ []) {n k : Nat} (hk : k < n) : (rotR u k).getLast? = (tailE u n)[n - k - 1]? := by
  have n0 := List.length_pos_iff.mpr h
  rw [last_get (rotR_ne h k), rotR_len, rotR_get h k (by omega), tailE_get h (by omega)]
  congr 1
  have h1 := Nat.mod_add_div n u.length
  have h2 := Nat.mod_add_div k u.length
  have h3 := Nat.mod_lt n n0
  have h4 := Nat.mod_lt k n0
  exact mod_of (x := n / u.length) (y := k / u.length + 1) (by rw [Nat.mul_add]; omega)
theorem per_at {d : Nat} {w : W} (hd : 0 < d) (h : Per d w) {i : Nat} (hi : i < w.length) : w[i]? = w[i % d]? := by
  have := per_mul h (i / d) (i % d) (by rw [Nat.mod_add_div]; exact hi)
  rw [Nat.mod_add_div] at this
  exact this.symm
theorem prim_rotR {u : W} (h : Prim u) (k : Nat) : Prim (rotR u k) := by
  have ne := h.1
  have n0 := List.length_pos_iff.mpr ne
  refine ⟨rotR_ne ne k, fun d hd hv hp => ?_⟩
  rw [rotR_len] at hv ⊢
  refine h.2 d hd hv fun i hi => ?_
  -- letter i of u stands in the turned word at the place i + k
  have at_ : ∀ j, j < u.length → u[j]? = (rotR u k)[(j + k) % u.length]? := fun j hj => by
    rw [rotR_get ne k (Nat.mod_lt _ n0)]
    congr 1
    have h1 := Nat.mod_add_div (j + k) u.length
    have h2 := Nat.mod_add_div k u.length
    have h4 := Nat.mod_lt k n0
    have := mod_of (a := (j + k) % u.length + (u.length - k % u.length)) (b := j) (L := u.length) (x := (j + k) / u.length) (y := k / u.length + 1) (by rw [Nat.mul_add]; omega)
    rw [this, Nat.mod_eq_of_lt hj]
  have l := rotR_len u k
  rw [at_ i (by omega), at_ (i + d) hi, per_at hd hp (by rw [l]; exact Nat.mod_lt _ n0), per_at hd hp (i := (i + d + k) % u.length) (by rw [l]; exact Nat.mod_lt _ n0)]
  congr 1
  rw [Nat.mod_mod_of_dvd _ hv, Nat.mod_mod_of_dvd _ hv, show i + d + k = i + k + d by omega, Nat.add_mod_right]
/-! ### how many letters are moved -/
def movedE (ahead u : W) : Nat := lcp ahead.reverse (tailE u ahead.length).reverse
theorem movedE_le (ahead u : W) : movedE ahead u ≤ ahead.length := by
  have := (lcp_le ahead.reverse (tailE u ahead.length).reverse).1
  rw [List.length_reverse] at this
  exact this
theorem moved_drop {ahead u : W} (h : u ≠ []) : ahead.drop (ahead.length - movedE ahead u) = tailE u (movedE ahead u) := by
  have hle := movedE_le ahead u
  have e := lcp_take ahead.reverse (tailE u ahead.length).reverse _ (Nat.le_refl _)
  rw [List.take_reverse, List.take_reverse] at e
  have e2 := List.reverse_inj.mp e
  rw [tailE_len h] at e2
  rw [← tailE_drop h hle]
  exact e2
theorem lcp_next : ∀ (a b : W), lcp a b < a.length → lcp a b < b.length → a[lcp a b]? ≠ b[lcp a b]?
  | [], b, h, _ => by simp at h
  | _ :: _, [], _, h => by simp at h
  | x :: xs, y :: ys, h1, h2 => by
    unfold lcp at h1 h2 ⊢
    by_cases e : x = y
    · rw [if_pos e] at h1 h2 ⊢
      rw [List.getElem?_cons_succ, List.getElem?_cons_succ]
      exact lcp_next xs ys (by simpa using h1) (by simpa using h2)
    · rw [if_neg e]
      simp [e]
theorem moved_next {ahead u : W} (h : u ≠ []) (hk : movedE ahead u < ahead.length) : (ahead.take (ahead.length - movedE ahead u)).getLast? ≠ (rotR u (movedE ahead u)).getLast? := by
  rw [rotR_last h hk, List.getLast?_eq_getElem?, List.length_take, Nat.min_eq_left (by omega), List.getElem?_take_of_lt (by omega)]
  have := lcp_next ahead.reverse (tailE u ahead.length).reverse (by rw [List.length_reverse]; exact hk) (by rw [List.length_reverse, tailE_len h]; exact hk)
  rw [List.getElem?_reverse (by exact hk), List.getElem?_reverse (by rw [tailE_len h]; exact hk), tailE_len h] at this
  have e : ahead.length - movedE ahead u - 1 = ahead.length - 1 - movedE ahead u := by omega
  rw [e]
  exact this
theorem moved_zero {ahead u : W} (h : u ≠ []) (ha : ahead ≠ []) (hl : ahead.getLast? ≠ u.getLast?) : movedE ahead u = 0 := by
  have n0 := List.length_pos_iff.mpr ha
  have u0 := List.length_pos_iff.mpr h
  by_cases z : movedE ahead u = 0
  · exact z
  exfalso
  apply hl
  have e := moved_drop (ahead := ahead) h
  have hle := movedE_le ahead u
  rw [List.getLast?_eq_getElem?, List.getLast?_eq_getElem?]
  have h1 : (ahead.drop (ahead.length - movedE ahead u))[movedE ahead u - 1]? = (tailE u (movedE ahead u))[movedE ahead u - 1]? := by rw [e]
  rw [List.getElem?_drop, tailE_get h (by omega)] at h1
  rw [show ahead.length - 1 = ahead.length - movedE ahead u + (movedE ahead u - 1) by omega, h1]
  congr 1
  have h2 := Nat.mod_add_div (movedE ahead u) u.length
  have h4 := Nat.mod_lt (movedE ahead u) u0
  have := mod_of (a := movedE ahead u - 1 + (u.length - movedE ahead u % u.length)) (b := u.length - 1) (L := u.length) (x := 0) (y := movedE ahead u / u.length) (by omega)
  rw [this, Nat.mod_eq_of_lt (show u.length - 1 < u.length by omega)]
end NM

set_option linter.all false
set_option maxRecDepth 100000
/-! normal lists of pieces: the program's steps as functions, and what they keep -/
namespace NM
open WM
abbrev F := List Nat
abbrev Pn := W × F
def isOpen (f : F) : Bool := f.tail.any fun x => decide (x ≠ 0)
def isPow (p : Pn) : Bool := decide (p.2.headD 0 = 0)
def one1 (m : Nat) : F := 1 :: List.replicate m 0
def fixP (w : W) (m : Nat) : Pn := (w, one1 m)
def addF (f g : F) : F := List.zipWith (fun x y => x + y) f g
def timesF (k : Nat) (f : F) : F := f.map fun x => k * x
def joinF (acc : List Pn) (w : W) (m : Nat) : List Pn :=
  match acc.getLast? with
  | some q => if isPow q then (if w = [] then acc else acc ++ [fixP w m]) else (if q.1 ++ w = [] then acc.dropLast else acc.dropLast ++ [fixP (q.1 ++ w) m])
  | none => if w = [] then acc else acc ++ [fixP w m]
/-- a power, behind what is no fixed piece -/
def pushP (acc : List Pn) (u : W) (f : F) : List Pn :=
  match acc.getLast? with
  | some q => if isPow q ∧ q.1 = u then acc.dropLast ++ [(u, addF q.2 f)] else acc ++ [(u, f)]
  | none => acc ++ [(u, f)]
def putP (acc : List Pn) (u : W) (f : F) : List Pn :=
  match acc.getLast? with
  | some q => if isPow q then joinF (pushP acc u f) [] (f.length - 1)
    else joinF (pushP (joinF acc.dropLast (q.1.take (q.1.length - movedE q.1 u)) (f.length - 1)) (rotR u (movedE q.1 u)) f) (q.1.drop (q.1.length - movedE q.1 u)) (f.length - 1)
  | none => joinF (pushP acc u f) [] (f.length - 1)
def stepA (acc : List Pn) (p : Pn) : List Pn := if p.1 ≠ [] ∧ isOpen p.2 then putP acc (p.1.take (rootN p.1)) (timesF (p.1.length / rootN p.1) (0 :: p.2.tail)) else acc
def stepB (acc : List Pn) (p : Pn) : List Pn := if p.1 ≠ [] ∧ p.2.headD 0 ≠ 0 then joinF acc (pw p.1 (p.2.headD 0)) (p.2.length - 1) else acc
def stepN (acc : List Pn) (p : Pn) : List Pn := stepB (stepA acc p) p
def normL (ps : List Pn) : List Pn := ps.foldl stepN []

/-! ### what is written at a point -/
def dot : List Nat → List Nat → Nat
  | x :: xs, y :: ys => x * y + dot xs ys
  | _, _ => 0
def valF (f : F) (pt : List Nat) : Nat := f.headD 0 + dot f.tail pt
def wrt (pt : List Nat) (p : Pn) : W := pw p.1 (valF p.2 pt)
def wr (pt : List Nat) : List Pn → W
  | [] => []
  | p :: r => wrt pt p ++ wr pt r
theorem wr_app (pt : List Nat) : ∀ a b, wr pt (a ++ b) = wr pt a ++ wr pt b
  | [], b => rfl
  | p :: r, b => by rw [List.cons_append, wr, wr, wr_app pt r b, List.append_assoc]
theorem wr_one (pt : List Nat) (p : Pn) : wr pt [p] = wrt pt p := by rw [wr, wr, List.append_nil]
theorem dot_zero : ∀ (m : Nat) (pt : List Nat), dot (List.replicate m 0) pt = 0
  | 0, _ => by simp [dot]
  | m + 1, [] => by simp [dot, List.replicate_succ]
  | m + 1, y :: ys => by rw [List.replicate_succ, dot, dot_zero m ys]; simp
theorem val_one (m : Nat) (pt : List Nat) : valF (one1 m) pt = 1 := by
  unfold valF one1
  simp [dot_zero]
theorem pw_one (w : W) : pw w 1 = w := by rw [pw_succ, pw_zero, List.append_nil]
theorem wrt_fix (pt : List Nat) (w : W) (m : Nat) : wrt pt (fixP w m) = w := by
  unfold wrt fixP
  rw [val_one, pw_one]
theorem last_split {α : Type} {l : List α} {q : α} (h : l.getLast? = some q) : l = l.dropLast ++ [q] := by
  obtain ⟨ne, e⟩ := List.getLast?_eq_some_iff.mp h
  subst e
  simp
theorem dot_add : ∀ (f g pt : List Nat), f.length = g.length → dot (List.zipWith (fun x y => x + y) f g) pt = dot f pt + dot g pt
  | [], [], _, _ => by simp [dot]
  | _ :: _, [], _, h => by simp at h
  | [], _ :: _, _, h => by simp at h
  | x :: f, y :: g, [], _ => by simp [dot]
  | x :: f, y :: g, z :: pt, h => by
    rw [List.zipWith_cons_cons, dot, dot, dot, dot_add f g pt (by simpa using h), Nat.add_mul]
    omega
theorem val_add {f g : F} (pt : List Nat) (h : f.length = g.length) : valF (addF f g) pt = valF f pt + valF g pt := by
  cases f with
  | nil =>
    cases g with
    | nil => simp [valF, addF, dot]
    | cons _ _ => simp at h
  | cons x f =>
    cases g with
    | nil => simp at h
    | cons y g =>
      unfold valF addF
      rw [List.zipWith_cons_cons]
      simp only [List.headD_cons, List.tail_cons]
      rw [dot_add f g pt (by simpa using h)]
      omega
theorem dot_times (k : Nat) : ∀ (f pt : List Nat), dot (f.map fun x => k * x) pt = k * dot f pt
  | [], _ => by simp [dot]
  | x :: f, [] => by simp [dot]
  | x :: f, y :: pt => by rw [List.map_cons, dot, dot, dot_times k f pt, Nat.mul_add, Nat.mul_assoc]
theorem val_times (k : Nat) (f : F) (pt : List Nat) : valF (timesF k f) pt = k * valF f pt := by
  cases f with
  | nil => simp [valF, timesF, dot]
  | cons x f =>
    unfold valF timesF
    rw [List.map_cons]
    simp only [List.headD_cons, List.tail_cons]
    rw [dot_times, Nat.mul_add]
/-- forms as they stand in a list for m unknowns -/
def LenF (m : Nat) (ps : List Pn) : Prop := ∀ p ∈ ps, p.2.length = m + 1
/-- the fixed pieces have the form of one -/
def FixOk (m : Nat) (ps : List Pn) : Prop := ∀ p ∈ ps, isPow p = false → p.2 = one1 m
theorem isPow_fix (w : W) (m : Nat) : isPow (fixP w m) = false := rfl
theorem wr_joinF {acc : List Pn} {m : Nat} (h : FixOk m acc) (w : W) (pt : List Nat) : wr pt (joinF acc w m) = wr pt acc ++ w := by
  unfold joinF
  split
  · next q hq =>
    have e := last_split hq
    have mem : q ∈ acc := List.mem_of_getLast? hq
    split
    · split
      · next z => rw [z, List.append_nil]
      · rw [wr_app, wr_one, wrt_fix]
    · next np =>
      have f1 := h q mem (by simpa using np)
      have wq : wrt pt q = q.1 := by unfold wrt; rw [f1, val_one, pw_one]
      have ew : wr pt acc = wr pt acc.dropLast ++ q.1 := by
        conv => lhs; rw [e]
        rw [wr_app, wr_one, wq]
      split
      · next z =>
        rw [ew]
        have z1 := (List.append_eq_nil_iff.mp z).1
        have z2 := (List.append_eq_nil_iff.mp z).2
        rw [z1, z2, List.append_nil, List.append_nil]
      · rw [wr_app, wr_one, wrt_fix, ew, List.append_assoc]
  · split
    · next z => rw [z, List.append_nil]
    · rw [wr_app, wr_one, wrt_fix]
theorem wr_pushP {acc : List Pn} {m : Nat} (h : LenF m acc) {u : W} {f : F} (hf : f.length = m + 1) (pt : List Nat) : wr pt (pushP acc u f) = wr pt acc ++ wrt pt (u, f) := by
  unfold pushP
  split
  · next q hq =>
    have e := last_split hq
    have mem : q ∈ acc := List.mem_of_getLast? hq
    split
    · next z =>
      have ew : wr pt acc = wr pt acc.dropLast ++ wrt pt q := by
        conv => lhs; rw [e]
        rw [wr_app, wr_one]
      rw [wr_app, wr_one, ew, List.append_assoc]
      congr 1
      show pw u (valF (addF q.2 f) pt) = pw q.1 (valF q.2 pt) ++ pw u (valF f pt)
      rw [val_add pt (by rw [h q mem, hf]), pw_add, z.2]
    · rw [wr_app, wr_one]
  · rw [wr_app, wr_one]

/-! ### the fold's facts -/
theorem get_dropLast {α : Type} {l : List α} {i : Nat} {x : α} (h : l.dropLast[i]? = some x) : l[i]? = some x := by
  rw [List.getElem?_dropLast] at h
  split at h
  · exact h
  · cases h
theorem mem_dropLast {α : Type} {l : List α} {x : α} (h : x ∈ l.dropLast) : x ∈ l := List.dropLast_subset _ h
structure NormP (m : Nat) (p : Pn) : Prop where
  ne : p.1 ≠ []
  len : p.2.length = m + 1
  fix : isPow p = false → p.2 = one1 m
  pow : isPow p = true → Prim p.1 ∧ isOpen p.2 = true
structure Adj (p q : Pn) : Prop where
  fix : isPow p = false → isPow q = true ∧ p.1.getLast? ≠ q.1.getLast?
  pow : isPow p = true → isPow q = true → p.1 ≠ q.1
structure Nm (m : Nat) (ps : List Pn) : Prop where
  all : ∀ p ∈ ps, NormP m p
  adj : ∀ i p q, ps[i]? = some p → ps[i + 1]? = some q → Adj p q
theorem Nm.nil {m : Nat} : Nm m [] := ⟨fun p h => absurd h List.not_mem_nil, fun i p q h => by simp at h⟩
theorem Nm.init {m : Nat} {l : List Pn} (h : Nm m l) : Nm m l.dropLast :=
  ⟨fun p hp => h.all p (mem_dropLast hp), fun i p q hp hq => h.adj i p q (get_dropLast hp) (get_dropLast hq)⟩
theorem Nm.snoc {m : Nat} {l : List Pn} {p : Pn} (h : Nm m l) (hp : NormP m p) (ha : ∀ q, l.getLast? = some q → Adj q p) : Nm m (l ++ [p]) := by
  refine ⟨fun q hq => ?_, fun i a b hi hj => ?_⟩
  · rcases List.mem_append.mp hq with z | z
    · exact h.all q z
    · rw [List.mem_singleton.mp z]
      exact hp
  · by_cases z : i + 1 < l.length
    · rw [List.getElem?_append_left (by omega)] at hi
      rw [List.getElem?_append_left z] at hj
      exact h.adj i a b hi hj
    · by_cases y : i + 1 = l.length
      · rw [List.getElem?_append_left (by omega)] at hi
        rw [List.getElem?_append_right (by omega), y, Nat.sub_self] at hj
        cases hj
        refine ha a ?_
        rw [List.getLast?_eq_getElem?, ← hi]
        congr 1
        omega
      · rw [List.getElem?_append_right (by omega), List.getElem?_eq_none (by simp; omega)] at hj
        cases hj
/-- the piece ahead of the last one -/
theorem Nm.pre {m : Nat} {l : List Pn} {p q : Pn} (h : Nm m l) (hp : l.getLast? = some p) (hq : l.dropLast.getLast? = some q) : Adj q p := by
  rw [List.getLast?_eq_getElem?] at hp hq
  have hq' := get_dropLast hq
  rw [List.length_dropLast] at hq'
  have hl := (List.getElem?_eq_some_iff.mp hq).1
  rw [List.length_dropLast] at hl
  refine h.adj (l.length - 1 - 1) q p hq' ?_
  rw [← hp]
  congr 1
  omega
theorem fixP_norm {m : Nat} {w : W} (h : w ≠ []) : NormP m (fixP w m) := ⟨h, by simp [fixP, one1], fun _ => rfl, fun z => by cases z⟩
/-- a fixed word behind a normal list -/
theorem nm_joinF {m : Nat} {acc : List Pn} (h : Nm m acc) (w : W) : Nm m (joinF acc w m) := by
  unfold joinF
  split
  · next q hq =>
    split
    · next pq =>
      split
      · exact h
      · next ne =>
        refine h.snoc (fixP_norm ne) fun q' hq' => ?_
        rw [hq] at hq'
        cases hq'
        exact ⟨fun z => (by rw [pq] at z; cases z), fun _ z => (by cases z)⟩
    · next pq =>
      split
      · exact h.init
      · next ne =>
        refine h.init.snoc (fixP_norm ne) fun q' hq' => ?_
        have a := h.pre hq hq'
        have pq' : isPow q = false := by simpa using pq
        exact ⟨fun z => (by have := (a.fix z).1; rw [pq'] at this; cases this), fun _ z => (by cases z)⟩
  · next hn =>
    split
    · exact h
    · next ne =>
      refine h.snoc (fixP_norm ne) fun q' hq' => ?_
      rw [hn] at hq'
      cases hq'
theorem isOpen_iff {f : F} : isOpen f = true ↔ ∃ x ∈ f.tail, x ≠ 0 := by
  unfold isOpen
  rw [List.any_eq_true]
  constructor
  · rintro ⟨x, hx, h⟩
    exact ⟨x, hx, by simpa using h⟩
  · rintro ⟨x, hx, h⟩
    exact ⟨x, hx, by simpa using h⟩
theorem open_add {f g : F} (hl : f.length = g.length) (h : isOpen g = true) : isOpen (addF f g) = true := by
  obtain ⟨x, hx, h0⟩ := isOpen_iff.mp h
  refine isOpen_iff.mpr ?_
  cases f with
  | nil =>
    cases g with
    | nil => cases hx
    | cons _ _ => simp at hl
  | cons a f =>
    cases g with
    | nil => simp at hl
    | cons b g =>
      obtain ⟨i, hi⟩ := List.getElem?_of_mem (show x ∈ g from hx)
      have hi2 := (List.getElem?_eq_some_iff.mp hi).1
      have hf : i < f.length := by simp at hl; omega
      refine ⟨f[i] + x, ?_, by omega⟩
      refine List.mem_of_getElem? (i := i) ?_
      show (List.zipWith (fun x y => x + y) f g)[i]? = _
      rw [List.getElem?_zipWith, List.getElem?_eq_getElem hf, hi]
theorem len_add {f g : F} (hl : f.length = g.length) : (addF f g).length = g.length := by
  unfold addF
  rw [List.length_zipWith]
  omega
theorem head_add {f g : F} (hl : f.length = g.length) (h1 : f.headD 0 = 0) (h2 : g.headD 0 = 0) : (addF f g).headD 0 = 0 := by
  cases f with
  | nil => simp [addF]
  | cons a f =>
    cases g with
    | nil => simp at hl
    | cons b g =>
      simp only [List.headD_cons] at h1 h2
      show a + b = 0
      omega
theorem pow_norm {m : Nat} {u : W} {f : F} (hu : Prim u) (hl : f.length = m + 1) (h0 : f.headD 0 = 0) (ho : isOpen f = true) : NormP m (u, f) ∧ isPow (u, f) = true := by
  have e : isPow (u, f) = true := decide_eq_true h0
  exact ⟨⟨hu.1, hl, fun z => (by rw [e] at z; cases z), fun _ => ⟨hu, ho⟩⟩, e⟩
/-- a power behind what does not end with its last letter -/
theorem nm_pushP {m : Nat} {acc : List Pn} (h : Nm m acc) {u : W} {f : F} (hu : Prim u) (hl : f.length = m + 1) (h0 : f.headD 0 = 0) (ho : isOpen f = true)
    (hx : ∀ q, acc.getLast? = some q → isPow q = false → q.1.getLast? ≠ u.getLast?) : Nm m (pushP acc u f) ∧ ∃ g, (pushP acc u f).getLast? = some (u, g) ∧ isPow (u, g) = true := by
  obtain ⟨np, pp⟩ := pow_norm hu hl h0 ho
  unfold pushP
  split
  · next q hq =>
    have mq := h.all q (List.mem_of_getLast? hq)
    split
    · next z =>
      obtain ⟨z1, z2⟩ := z
      have lq : q.2.length = f.length := by rw [mq.len, hl]
      have hq0 : q.2.headD 0 = 0 := of_decide_eq_true z1
      obtain ⟨np2, pp2⟩ := pow_norm (m := m) (f := addF q.2 f) hu (by rw [len_add lq, hl]) (head_add lq hq0 h0) (open_add lq ho)
      refine ⟨h.init.snoc np2 fun q' hq' => ?_, _, by simp, pp2⟩
      have a := h.pre hq hq'
      exact ⟨fun y => ⟨pp2, by have := (a.fix y).2; rw [z2] at this; exact this⟩, fun y _ => by have := a.pow y z1; rw [z2] at this; exact this⟩
    · next z =>
      refine ⟨h.snoc np fun q' hq' => ?_, _, by simp, pp⟩
      rw [hq] at hq'
      cases hq'
      exact ⟨fun y => ⟨pp, hx q hq y⟩, fun y _ e => z ⟨y, e⟩⟩
  · next hn =>
    refine ⟨h.snoc np fun q' hq' => ?_, _, by simp, pp⟩
    rw [hn] at hq'
    cases hq'
theorem joinF_nil {acc : List Pn} {q : Pn} {m : Nat} (h : acc.getLast? = some q) (hp : isPow q = true) : joinF acc [] m = acc := by
  unfold joinF
  rw [h]
  simp [hp]
theorem nm_putP {m : Nat} {acc : List Pn} (h : Nm m acc) {u : W} {f : F} (hu : Prim u) (hl : f.length = m + 1) (h0 : f.headD 0 = 0) (ho : isOpen f = true) : Nm m (putP acc u f) := by
  have em : f.length - 1 = m := by omega
  unfold putP
  rw [em]
  split
  · next q hq =>
    split
    · next pq =>
      exact nm_joinF (nm_pushP h hu hl h0 ho fun q' hq' z => by rw [hq] at hq'; cases hq'; rw [pq] at z; cases z).1 _
    · next pq =>
      have pq' : isPow q = false := by simpa using pq
      refine nm_joinF (nm_pushP (nm_joinF h.init _) (prim_rotR hu _) hl h0 ho fun q' hq' z => ?_).1 _
      by_cases e : q.1.take (q.1.length - movedE q.1 u) = []
      · -- nothing is left of the fixed piece: what is ahead is a power
        exfalso
        rw [e] at hq'
        have : joinF acc.dropLast [] m = acc.dropLast := by
          cases hd : acc.dropLast.getLast? with
          | none =>
            unfold joinF
            rw [hd]
            simp
          | some r =>
            have a := h.pre hq hd
            have pr : isPow r = true := by
              cases y : isPow r with
              | true => rfl
              | false =>
                have := (a.fix y).1
                rw [pq'] at this
                cases this
            exact joinF_nil hd pr
        rw [this] at hq'
        have a := h.pre hq hq'
        have := (a.fix z).1
        rw [pq'] at this
        cases this
      · have lt : movedE q.1 u < q.1.length := by
          have := List.length_pos_iff.mpr e
          rw [List.length_take] at this
          omega
        have eq : joinF acc.dropLast (q.1.take (q.1.length - movedE q.1 u)) m = acc.dropLast ++ [fixP (q.1.take (q.1.length - movedE q.1 u)) m] := by
          unfold joinF
          split
          · next r hr =>
            have a := h.pre hq hr
            have pr : isPow r = true := by
              cases y : isPow r with
              | true => rfl
              | false =>
                have := (a.fix y).1
                rw [pq'] at this
                cases this
            rw [if_pos pr, if_neg e]
          · rw [if_neg e]
        rw [eq] at hq'
        rw [List.getLast?_append] at hq'
        cases hq'
        exact moved_next hu.1 lt
  · next hn =>
    exact nm_joinF (nm_pushP h hu hl h0 ho fun q' hq' => by rw [hn] at hq'; cases hq').1 _
theorem open_times {k : Nat} (hk : 0 < k) {f : F} (h : isOpen f = true) : isOpen (timesF k (0 :: f.tail)) = true := by
  obtain ⟨x, hx, h0⟩ := isOpen_iff.mp h
  refine isOpen_iff.mpr ⟨k * x, List.mem_map.mpr ⟨x, hx, rfl⟩, ?_⟩
  have := Nat.mul_pos hk (Nat.pos_of_ne_zero h0)
  omega
theorem root_times {w : W} (h : w ≠ []) : 0 < w.length / rootN w := Nat.div_pos (rootN_le h) (rootN_pos h)
theorem nm_stepA {m : Nat} {acc : List Pn} (h : Nm m acc) {p : Pn} (hl : p.2.length = m + 1) : Nm m (stepA acc p) := by
  unfold stepA
  split
  · next z =>
    refine nm_putP h (root_prim z.1) ?_ ?_ (open_times (root_times z.1) z.2)
    · unfold timesF
      simp [hl]
    · simp [timesF]
  · exact h
theorem nm_stepB {m : Nat} {acc : List Pn} (h : Nm m acc) {p : Pn} (hl : p.2.length = m + 1) : Nm m (stepB acc p) := by
  unfold stepB
  split
  · have e : p.2.length - 1 = m := by omega
    rw [e]
    exact nm_joinF h _
  · exact h
theorem nm_fold {m : Nat} : ∀ (ps acc : List Pn), Nm m acc → LenF m ps → Nm m (ps.foldl stepN acc)
  | [], _, h, _ => h
  | p :: r, acc, h, hl => nm_fold r _ (nm_stepB (nm_stepA h (hl p List.mem_cons_self)) (hl p List.mem_cons_self)) fun q hq => hl q (List.mem_cons_of_mem _ hq)
theorem nm_normL {m : Nat} {ps : List Pn} (h : LenF m ps) : Nm m (normL ps) := nm_fold ps [] .nil h
theorem Nm.lenF {m : Nat} {ps : List Pn} (h : Nm m ps) : LenF m ps := fun p hp => (h.all p hp).len
theorem Nm.fixOk {m : Nat} {ps : List Pn} (h : Nm m ps) : FixOk m ps := fun p hp => (h.all p hp).fix
/-! ### what is written stays -/
theorem wr_putP {m : Nat} {acc : List Pn} (h : Nm m acc) {u : W} {f : F} (hu : Prim u) (hl : f.length = m + 1) (h0 : f.headD 0 = 0) (ho : isOpen f = true) (pt : List Nat) : wr pt (putP acc u f) = wr pt acc ++ wrt pt (u, f) := by
  have em : f.length - 1 = m := by omega
  have one : ∀ {acc : List Pn}, Nm m acc → (∀ q, acc.getLast? = some q → isPow q = true) → wr pt (joinF (pushP acc u f) [] m) = wr pt acc ++ wrt pt (u, f) := fun {acc} h hp => by
    obtain ⟨n, g, hg, pg⟩ := nm_pushP h hu hl h0 ho fun q' hq' z => by rw [hp q' hq'] at z; cases z
    rw [joinF_nil hg pg, wr_pushP h.lenF hl]
  unfold putP
  rw [em]
  split
  · next q hq =>
    split
    · next pq => exact one h fun q' hq' => by rw [hq] at hq'; cases hq'; exact pq
    · next pq =>
      have pq' : isPow q = false := by simpa using pq
      have e := last_split hq
      have mq := h.all q (List.mem_of_getLast? hq)
      have wq : wrt pt q = q.1 := by unfold wrt; rw [mq.fix pq', val_one, pw_one]
      have n1 := nm_joinF h.init (q.1.take (q.1.length - movedE q.1 u)) (m := m)
      have n2 : Nm m (putP acc u f) := nm_putP h hu hl h0 ho
      have l2 : FixOk m (pushP (joinF acc.dropLast (q.1.take (q.1.length - movedE q.1 u)) m) (rotR u (movedE q.1 u)) f) := by
        intro p hp z
        unfold pushP at hp
        have pr : isPow (rotR u (movedE q.1 u), f) = true := decide_eq_true h0
        split at hp
        · next r hr =>
          split at hp
          · next y =>
            rcases List.mem_append.mp hp with x | x
            · exact n1.fixOk p (mem_dropLast x) z
            · rw [List.mem_singleton.mp x] at z
              have : isPow (rotR u (movedE q.1 u), addF r.2 f) = true := decide_eq_true (head_add (by rw [n1.lenF r (List.mem_of_getLast? hr), hl]) (of_decide_eq_true y.1) h0)
              rw [this] at z
              cases z
          · rcases List.mem_append.mp hp with x | x
            · exact n1.fixOk p x z
            · rw [List.mem_singleton.mp x, pr] at z
              cases z
        · rcases List.mem_append.mp hp with x | x
          · exact n1.fixOk p x z
          · rw [List.mem_singleton.mp x, pr] at z
            cases z
      rw [wr_joinF l2, wr_pushP n1.lenF hl, wr_joinF h.init.fixOk]
      have ew : wr pt acc = wr pt acc.dropLast ++ q.1 := by
        conv => lhs; rw [e]
        rw [wr_app, wr_one, wq]
      rw [ew, moved_drop hu.1]
      have mv := move_pw u (movedE q.1 u) (valF f pt)
      rw [List.append_assoc, List.append_assoc, List.append_assoc]
      congr 1
      show q.1.take _ ++ (pw (rotR u (movedE q.1 u)) (valF f pt) ++ tailE u (movedE q.1 u)) = q.1 ++ pw u (valF f pt)
      rw [mv, ← moved_drop hu.1, ← List.append_assoc, List.take_append_drop]
  · next hn => exact one h fun q' hq' => by rw [hn] at hq'; cases hq'
theorem pw_mul (w : W) (a : Nat) : ∀ b, pw (pw w a) b = pw w (a * b)
  | 0 => by simp [pw]
  | b + 1 => by rw [pw_succ, pw_mul w a b, ← pw_add, Nat.mul_succ, Nat.add_comm]
theorem pw_nil (n : Nat) : pw [] n = [] := List.length_eq_zero_iff.mp (by rw [pw_len]; simp)
theorem val_split (f : F) (pt : List Nat) : valF f pt = valF (0 :: f.tail) pt + f.headD 0 := by
  unfold valF
  simp
  omega
theorem dot_closed : ∀ {f : List Nat}, (∀ x ∈ f, x = 0) → ∀ pt : List Nat, dot f pt = 0
  | [], _, _ => by simp [dot]
  | x :: f, h, [] => by simp [dot]
  | x :: f, h, y :: pt => by
    rw [dot, dot_closed (fun z hz => h z (List.mem_cons_of_mem _ hz)) pt, h x List.mem_cons_self]
    simp
theorem wr_stepN {m : Nat} {acc : List Pn} (h : Nm m acc) {p : Pn} (hl : p.2.length = m + 1) (pt : List Nat) : wr pt (stepN acc p) = wr pt acc ++ wrt pt p := by
  have hA := nm_stepA h hl
  have wA : wr pt (stepA acc p) = wr pt acc ++ pw p.1 (valF (0 :: p.2.tail) pt) := by
    unfold stepA
    split
    · next z =>
      have lt : (timesF (p.1.length / rootN p.1) (0 :: p.2.tail)).length = m + 1 := by unfold timesF; simp [hl]
      rw [wr_putP h (root_prim z.1) lt (by simp [timesF]) (open_times (root_times z.1) z.2)]
      congr 1
      show pw (p.1.take (rootN p.1)) (valF (timesF _ _) pt) = _
      rw [val_times, ← pw_mul, ← root_pw z.1]
    · next z =>
      by_cases ne : p.1 = []
      · rw [ne, pw_nil, List.append_nil]
      · have hc : ∀ x ∈ p.2.tail, x = 0 := fun x hx => Classical.byContradiction fun y => z ⟨ne, isOpen_iff.mpr ⟨x, hx, y⟩⟩
        rw [show valF (0 :: p.2.tail) pt = 0 by unfold valF; simp [dot_closed hc], pw_zero, List.append_nil]
  have wB : wr pt (stepB (stepA acc p) p) = wr pt (stepA acc p) ++ pw p.1 (p.2.headD 0) := by
    unfold stepB
    split
    · have e : p.2.length - 1 = m := by omega
      rw [e, wr_joinF hA.fixOk]
    · next z =>
      by_cases ne : p.1 = []
      · rw [ne, pw_nil, List.append_nil]
      · have : p.2.headD 0 = 0 := Classical.byContradiction fun y => z ⟨ne, y⟩
        rw [this, pw_zero, List.append_nil]
  unfold stepN
  rw [wB, wA, List.append_assoc, ← pw_add, ← val_split]
  rfl
theorem wr_fold {m : Nat} (pt : List Nat) : ∀ (ps acc : List Pn), Nm m acc → LenF m ps → wr pt (ps.foldl stepN acc) = wr pt acc ++ wr pt ps
  | [], acc, _, _ => by simp [wr]
  | p :: r, acc, h, hl => by
    have lp := hl p List.mem_cons_self
    rw [List.foldl_cons, show stepN acc p = stepB (stepA acc p) p from rfl, wr_fold pt r _ (nm_stepB (nm_stepA h lp) lp) (fun q hq => hl q (List.mem_cons_of_mem _ hq)), show stepB (stepA acc p) p = stepN acc p from rfl, wr_stepN h lp, List.append_assoc]
    rfl
/-- the normal list writes the same -/
theorem wr_normL {m : Nat} {ps : List Pn} (h : LenF m ps) (pt : List Nat) : wr pt (normL ps) = wr pt ps := wr_fold pt ps [] .nil h
end NM

set_option linter.all false
set_option maxRecDepth 100000
namespace NM
open WM
/-! ### the measure -/
def measP (p : Pn) : Nat := p.1.length * (p.2.headD 0 + (if isOpen p.2 then 1 else 0))
def meas (ps : List Pn) : Nat := (ps.map measP).sum
theorem meas_app (a b : List Pn) : meas (a ++ b) = meas a + meas b := by unfold meas; rw [List.map_append, List.sum_append]
theorem meas_one (p : Pn) : meas [p] = measP p := by simp [meas]
theorem open_one (m : Nat) : isOpen (one1 m) = false := by
  unfold isOpen one1
  rw [List.any_eq_false]
  intro x hx
  have := List.eq_of_mem_replicate (show x ∈ List.replicate m 0 from hx)
  simp [this]
theorem measP_fix (w : W) (m : Nat) : measP (fixP w m) = w.length := by
  unfold measP fixP
  simp only [open_one]
  simp [one1]
theorem meas_last {l : List Pn} {q : Pn} (h : l.getLast? = some q) : meas l = meas l.dropLast + measP q := by
  conv => lhs; rw [last_split h]
  rw [meas_app, meas_one]
theorem meas_joinF {m : Nat} {acc : List Pn} (h : FixOk m acc) (w : W) : meas (joinF acc w m) = meas acc + w.length := by
  unfold joinF
  split
  · next q hq =>
    split
    · split
      · next z => rw [z]; rfl
      · rw [meas_app, meas_one, measP_fix]
    · next np =>
      have f1 := h q (List.mem_of_getLast? hq) (by simpa using np)
      have mq : measP q = q.1.length := by
        have : q = fixP q.1 m := by unfold fixP; rw [← f1]
        conv => lhs; rw [this]
        rw [measP_fix]
      have ml := meas_last hq
      split
      · next z =>
        have z1 := congrArg List.length z
        rw [List.length_append, List.length_nil] at z1
        omega
      · rw [meas_app, meas_one, measP_fix, List.length_append]
        omega
  · split
    · next z => rw [z]; rfl
    · rw [meas_app, meas_one, measP_fix]
theorem measP_pow {u : W} {f : F} (h0 : f.headD 0 = 0) : measP (u, f) ≤ u.length := by
  unfold measP
  simp only [h0, Nat.zero_add]
  split
  · rw [Nat.mul_one]
    exact Nat.le_refl _
  · rw [Nat.mul_zero]
    exact Nat.zero_le _
theorem meas_pushP {acc : List Pn} {u : W} {f : F} (h0 : f.headD 0 = 0) (hx : ∀ q, acc.getLast? = some q → isPow q = true → q.1 = u → (addF q.2 f).headD 0 = 0 ∧ u.length ≤ measP q) : meas (pushP acc u f) ≤ meas acc + u.length := by
  unfold pushP
  split
  · next q hq =>
    have ml := meas_last hq
    split
    · next z =>
      obtain ⟨a, b⟩ := hx q hq z.1 z.2
      have := measP_pow (u := u) a
      rw [meas_app, meas_one]
      omega
    · have := measP_pow (u := u) h0
      rw [meas_app, meas_one]
      omega
  · have := measP_pow (u := u) h0
    rw [meas_app, meas_one]
    omega
theorem measP_le {m : Nat} {q : Pn} (h : NormP m q) : q.1.length ≤ measP q := by
  unfold measP
  cases e : isPow q with
  | false =>
    rw [h.fix e]
    simp [one1]
    exact Nat.le_mul_of_pos_right _ (by omega)
  | true =>
    rw [if_pos (h.pow e).2]
    exact Nat.le_mul_of_pos_right _ (by omega)
theorem meas_pushN {m : Nat} {acc : List Pn} (h : Nm m acc) {u : W} {f : F} (hl : f.length = m + 1) (h0 : f.headD 0 = 0) : meas (pushP acc u f) ≤ meas acc + u.length :=
  meas_pushP h0 fun q hq pq e => by
    have nq := h.all q (List.mem_of_getLast? hq)
    refine ⟨head_add (by rw [nq.len, hl]) (of_decide_eq_true pq) h0, ?_⟩
    rw [← e]
    exact measP_le nq
theorem fix_pushP {m : Nat} {acc : List Pn} (h : Nm m acc) {u : W} {f : F} (hl : f.length = m + 1) (h0 : f.headD 0 = 0) : FixOk m (pushP acc u f) := by
  intro p hp z
  unfold pushP at hp
  have pr : isPow (u, f) = true := decide_eq_true h0
  split at hp
  · next r hr =>
    split at hp
    · next y =>
      rcases List.mem_append.mp hp with x | x
      · exact h.fixOk p (mem_dropLast x) z
      · rw [List.mem_singleton.mp x] at z
        have : isPow (u, addF r.2 f) = true := decide_eq_true (head_add (by rw [h.lenF r (List.mem_of_getLast? hr), hl]) (of_decide_eq_true y.1) h0)
        rw [this] at z
        cases z
    · rcases List.mem_append.mp hp with x | x
      · exact h.fixOk p x z
      · rw [List.mem_singleton.mp x, pr] at z
        cases z
  · rcases List.mem_append.mp hp with x | x
    · exact h.fixOk p x z
    · rw [List.mem_singleton.mp x, pr] at z
      cases z
theorem meas_putP {m : Nat} {acc : List Pn} (h : Nm m acc) {u : W} {f : F} (hl : f.length = m + 1) (h0 : f.headD 0 = 0) : meas (putP acc u f) ≤ meas acc + u.length := by
  have em : f.length - 1 = m := by omega
  have one : ∀ {acc : List Pn}, Nm m acc → meas (joinF (pushP acc u f) [] m) ≤ meas acc + u.length := fun {acc} h => by
    rw [meas_joinF (fix_pushP h hl h0)]
    exact meas_pushN h hl h0
  unfold putP
  rw [em]
  split
  · next q hq =>
    split
    · exact one h
    · next pq =>
      have pq' : isPow q = false := by simpa using pq
      have mq := h.all q (List.mem_of_getLast? hq)
      have e : measP q = q.1.length := by
        have : q = fixP q.1 m := by unfold fixP; rw [← mq.fix pq']
        conv => lhs; rw [this]
        rw [measP_fix]
      have ml := meas_last hq
      have n1 := nm_joinF h.init (q.1.take (q.1.length - movedE q.1 u)) (m := m)
      rw [meas_joinF (fix_pushP n1 hl h0)]
      have a := meas_pushN n1 (u := rotR u (movedE q.1 u)) hl h0
      rw [meas_joinF h.init.fixOk, List.length_take, rotR_len] at a
      rw [List.length_drop]
      have := movedE_le q.1 u
      omega
  · exact one h
theorem meas_stepN {m : Nat} {acc : List Pn} (h : Nm m acc) {p : Pn} (hl : p.2.length = m + 1) : meas (stepN acc p) ≤ meas acc + measP p := by
  have hA := nm_stepA h hl
  have a : meas (stepA acc p) ≤ meas acc + p.1.length * (if isOpen p.2 then 1 else 0) := by
    unfold stepA
    split
    · next z =>
      have lt : (timesF (p.1.length / rootN p.1) (0 :: p.2.tail)).length = m + 1 := by unfold timesF; simp [hl]
      have := meas_putP h (u := p.1.take (rootN p.1)) lt (by simp [timesF])
      rw [if_pos z.2]
      rw [List.length_take] at this
      omega
    · omega
  have b : meas (stepB (stepA acc p) p) ≤ meas (stepA acc p) + p.1.length * p.2.headD 0 := by
    unfold stepB
    split
    · have e : p.2.length - 1 = m := by omega
      rw [e, meas_joinF hA.fixOk, pw_len]
      exact Nat.le_refl _
    · omega
  unfold stepN measP
  rw [Nat.mul_add]
  omega
theorem meas_fold {m : Nat} : ∀ (ps acc : List Pn), Nm m acc → LenF m ps → meas (ps.foldl stepN acc) ≤ meas acc + meas ps
  | [], acc, _, _ => by simp [meas]
  | p :: r, acc, h, hl => by
    have lp := hl p List.mem_cons_self
    have a := meas_stepN h lp
    have b := meas_fold r (stepN acc p) (nm_stepB (nm_stepA h lp) lp) fun q hq => hl q (List.mem_cons_of_mem _ hq)
    rw [List.foldl_cons]
    have : meas (p :: r) = measP p + meas r := by simp [meas]
    omega
theorem meas_normL {m : Nat} {ps : List Pn} (h : LenF m ps) : meas (normL ps) ≤ meas ps := by
  have := meas_fold ps [] (Nm.nil (m := m)) h
  unfold normL
  have e : meas [] = 0 := rfl
  omega
/-! ### a normal list stays -/
theorem joinF_app {m : Nat} {acc : List Pn} {w : W} (hw : w ≠ []) (h : ∀ q, acc.getLast? = some q → isPow q = true) : joinF acc w m = acc ++ [fixP w m] := by
  unfold joinF
  split
  · next q hq => rw [if_pos (h q hq), if_neg hw]
  · rw [if_neg hw]
theorem pushP_app {acc : List Pn} {u : W} {f : F} (h : ∀ q, acc.getLast? = some q → ¬ (isPow q = true ∧ q.1 = u)) : pushP acc u f = acc ++ [(u, f)] := by
  unfold pushP
  split
  · next q hq => rw [if_neg (h q hq)]
  · rfl
theorem prim_root {w : W} (h : Prim w) : rootN w = w.length := h.2 _ (rootN_pos h.1) (rootN_dvd w) (rootN_per w)
theorem times_one {f : F} (h : f.headD 0 = 0) (hl : 0 < f.length) : timesF 1 (0 :: f.tail) = f := by
  cases f with
  | nil => simp at hl
  | cons a f =>
    simp only [List.headD_cons] at h
    subst h
    simp [timesF]
theorem step_fix {m : Nat} {l : List Pn} {p : Pn} (h : Nm m l) (hp : NormP m p) (ha : ∀ q, l.getLast? = some q → Adj q p) : stepN l p = l ++ [p] := by
  cases e : isPow p with
  | false =>
    have f1 := hp.fix e
    have ep : fixP p.1 m = p := by unfold fixP; rw [← f1]
    have no : isOpen p.2 = false := by rw [f1, open_one]
    have h1 : p.2.headD 0 = 1 := by rw [f1]; rfl
    have eA : stepA l p = l := by
      unfold stepA
      rw [if_neg fun z => by rw [no] at z; exact Bool.false_ne_true z.2]
    unfold stepN
    rw [eA]
    unfold stepB
    rw [if_pos ⟨hp.ne, by rw [h1]; decide⟩, h1, pw_one, show p.2.length - 1 = m by rw [hp.len]; rfl, joinF_app hp.ne fun q hq => ?_, ep]
    cases y : isPow q with
    | true => rfl
    | false =>
      have := ((ha q hq).fix y).1
      rw [e] at this
      cases this
  | true =>
    obtain ⟨pr, op⟩ := hp.pow e
    have h0 : p.2.headD 0 = 0 := of_decide_eq_true e
    have n0 := List.length_pos_iff.mpr hp.ne
    have eA : stepA l p = putP l p.1 p.2 := by
      unfold stepA
      rw [if_pos ⟨hp.ne, op⟩, prim_root pr, List.take_length, Nat.div_self n0, times_one h0 (by rw [hp.len]; omega)]
    have eB : ∀ acc, stepB acc p = acc := fun acc => by
      unfold stepB
      rw [if_neg fun z => z.2 h0]
    have last : ∀ l : List Pn, (l ++ [p]).getLast? = some p := fun l => by simp
    unfold stepN
    rw [eB, eA]
    unfold putP
    rw [show p.2.length - 1 = m by rw [hp.len]; rfl]
    split
    · next q hq =>
      have a := ha q hq
      split
      · next pq =>
        rw [pushP_app fun q' hq' => by rw [hq] at hq'; cases hq'; exact fun z => a.pow pq e z.2]
        exact joinF_nil (last l) e
      · next pq =>
        have pq' : isPow q = false := by simpa using pq
        have mq := h.all q (List.mem_of_getLast? hq)
        have mz : movedE q.1 p.1 = 0 := moved_zero hp.ne mq.ne (a.fix pq').2
        have el : joinF l.dropLast q.1 m = l := by
          rw [joinF_app mq.ne fun r hr => ?_]
          · have : fixP q.1 m = q := by unfold fixP; rw [← mq.fix pq']
            rw [this]
            exact (last_split hq).symm
          · have b := h.pre hq hr
            cases y : isPow r with
            | true => rfl
            | false =>
              have := (b.fix y).1
              rw [pq'] at this
              cases this
        rw [mz, Nat.sub_zero, List.take_length, List.drop_length, rotR_zero, el, pushP_app fun q' hq' => by rw [hq] at hq'; cases hq'; exact fun z => pq z.1]
        exact joinF_nil (last l) e
    · next hn =>
      rw [pushP_app fun q' hq' => by rw [hn] at hq'; cases hq']
      exact joinF_nil (last l) e
theorem Nm.take {m : Nat} {l : List Pn} (h : Nm m l) (i : Nat) : Nm m (l.take i) := by
  refine ⟨fun p hp => h.all p (List.mem_of_mem_take hp), fun j p q hj hq => ?_⟩
  rw [List.getElem?_take] at hj hq
  split at hq
  · split at hj
    · exact h.adj j p q hj hq
    · cases hj
  · cases hq
theorem normL_take {m : Nat} {ps : List Pn} (h : Nm m ps) : ∀ i, i ≤ ps.length → normL (ps.take i) = ps.take i
  | 0, _ => by simp [normL]
  | i + 1, hi => by
    have hp := List.getElem?_eq_getElem (show i < ps.length by omega)
    generalize ps[i] = p at hp
    have e : ps.take (i + 1) = ps.take i ++ [p] := by rw [List.take_succ, hp]; rfl
    rw [e]
    unfold normL
    rw [List.foldl_append]
    have := normL_take h i (by omega)
    unfold normL at this
    rw [this]
    refine step_fix (h.take i) (h.all p (List.mem_of_getElem? hp)) fun q hq => ?_
    rw [List.getLast?_eq_getElem?, List.length_take, Nat.min_eq_left (by omega)] at hq
    rw [List.getElem?_take] at hq
    split at hq
    · refine h.adj (i - 1) q p hq ?_
      rw [show i - 1 + 1 = i by omega]
      exact hp
    · cases hq
/-- a normal list is its own -/
theorem normL_id {m : Nat} {ps : List Pn} (h : Nm m ps) : normL ps = ps := by
  have := normL_take h ps.length (Nat.le_refl _)
  rw [List.take_length] at this
  exact this
end NM

set_option Elab.async false
set_option linter.all false
set_option maxRecDepth 100000
set_option maxHeartbeats 2000000
namespace K41
open PySem PySem.Spec PyProof.Rows L2 CK SX NM
/-! ### letters -/
def Low (w : List Nat) : Prop := ∀ c ∈ w, 97 ≤ c ∧ c ≤ 122
theorem low_cases {c : Nat} (h : 97 ≤ c ∧ c ≤ 122) : Unicode.isAlpha c = true ∧ Unicode.isLower c = true ∧ (Unicode.isUpper c || Unicode.isTitle c) = false := by
  have : c ∈ List.range' 97 26 := by
    rw [List.mem_range']
    exact ⟨c - 97, by omega, by omega⟩
  have all : (List.range' 97 26).all (fun c => Unicode.isAlpha c && Unicode.isLower c && !(Unicode.isUpper c || Unicode.isTitle c)) = true := by decide +kernel
  have := List.all_eq_true.mp all c this
  simp only [Bool.and_eq_true, Bool.not_eq_true'] at this
  exact ⟨this.1.1, this.1.2, this.2⟩
theorem low_ascii {w : List Nat} (h : Low w) : Txt.isascii (S w) = true := by
  unfold Txt.isascii
  rw [← Array.all_toList, List.all_eq_true]
  exact fun c hc => decide_eq_true (by have := h c hc; omega)
theorem low_alpha {w : List Nat} (h : Low w) (ne : w ≠ []) : Txt.isalpha (S w) = true := by
  unfold Txt.isalpha
  rw [← Array.all_toList, S_len, decide_eq_true (List.length_pos_iff.mpr ne), Bool.true_and, List.all_eq_true]
  exact fun c hc => (low_cases (h c hc)).1
theorem low_lower {w : List Nat} (h : Low w) (ne : w ≠ []) : Txt.islower (S w) = true := by
  unfold Txt.islower
  rw [← Array.any_toList, ← Array.any_toList, Bool.and_eq_true]
  constructor
  · obtain ⟨c, hc⟩ := List.exists_mem_of_ne_nil w ne
    exact List.any_eq_true.mpr ⟨c, hc, (low_cases (h c hc)).2.1⟩
  · rw [Bool.not_eq_true', List.any_eq_false]
    exact fun c hc => by rw [(low_cases (h c hc)).2.2]; exact Bool.false_ne_true
section
variable {P : Program} {w : World} {K : PySem.W.Frag} {mg : Str → Option Value} {base : Heap} {C : Addr}
/-! ### checks -/
def sp_is_whole : Sp := fun vs H Q _ => ∃ v, vs = [v] ∧ Kn H v ∧ Q (.bl (isW v)) H
theorem c_is_whole (T : Txt K mg C) : C8.Cal P w K mg base 1 "is_whole" sp_is_whole [] := by
  refine calF T.d_is_whole sc_is_whole (fun vs H Q E h => ?_) (fun f cdv A outer s H vs Q E hr h => ?_)
  · obtain ⟨v, rfl, _⟩ := h; rfl
  · obtain ⟨v, rfl, k, q⟩ := h
    refine ⟨_, (pss_one (ps_ret (pe_and (pe_callB call_isK (by rfl) T.m_isinstance (by decide +kernel) (pa_cons (pv 0) (pa_cons (pe_bltn (v := .ty "int") (by rfl) T.m_int (by decide +kernel) rfl) pa_nil))) (pe_one (pe_not (pe_callB call_isK (by rfl) T.m_isinstance (by decide +kernel) (pa_cons (pv 0) (pa_cons (pe_bltn (v := .ty "bool") (by rfl) T.m_bool (by decide +kernel) rfl) pa_nil)))))))), ?_⟩
    refine ⟨v, rfl, v, "int", _, rfl, k, kit_int k, _, rfl, ite2 (fun e => ?_) (fun e => ?_)⟩
    · refine ⟨v, rfl, v, "bool", _, rfl, k, kit_bool k, _, rfl, ?_⟩
      rw [show (!isBo v) = isW v by cases v <;> first | rfl | (exact absurd e Bool.false_ne_true)]
      exact q
    · rw [show false = isW v by cases v <;> first | rfl | (exact absurd rfl e)]
      exact q
def sp_is_count : Sp := fun vs H Q _ => ∃ v, vs = [v] ∧ Kn H v ∧ Q (.bl (isC v)) H
theorem c_is_count (T : Txt K mg C) : C8.Cal P w K mg base 2 "is_count" sp_is_count [] := by
  refine calF T.d_is_count sc_is_count (fun vs H Q E h => ?_) (fun f cdv A outer s H vs Q E hr h => ?_)
  · obtain ⟨v, rfl, _⟩ := h; rfl
  · obtain ⟨v, rfl, k, q⟩ := h
    refine ⟨_, (pss_one (ps_ret (pe_and (C8.pe_c (c_is_whole T) hr (by decide) (by rfl) (pa_cons (pv 0) pa_nil)) (pe_one (pe_cmpR op_ge (pv 0) pe_int (nomark _)))))), ?_⟩
    refine ⟨v, rfl, v, rfl, k, _, rfl, ite2 (fun e => ?_) (fun e => ?_)⟩
    · cases v <;> first | (exact absurd e Bool.false_ne_true) | exact ⟨_, rfl, _, 0, rfl, rfl, q⟩
    · rw [show false = isC v by cases v <;> first | rfl | (exact absurd rfl e)]
      exact q
def sp_is_within : Sp := fun vs H Q _ => ∃ i lo hi : Int, vs = [.int i, .int lo, .int hi] ∧ Q (.bl (decide (lo ≤ i) && decide (i ≤ hi))) H
theorem c_is_within (T : Txt K mg C) : C8.Cal P w K mg base 2 "is_within" sp_is_within [] := by
  refine calF T.d_is_within sc_is_within (fun vs H Q E h => ?_) (fun f cdv A outer s H vs Q E hr h => ?_)
  · obtain ⟨i, lo, hi, rfl, _⟩ := h; rfl
  · obtain ⟨i, lo, hi, rfl, q⟩ := h
    refine ⟨_, (pss_one (ps_ret (pe_and (C8.pe_c (c_is_whole T) hr (by decide) (by rfl) (pa_cons (pv 0) pa_nil)) (pe_one (pe_chain op_le op_le (pv 1) (pv 0) (pv 2)))))), ?_⟩
    refine ⟨.int i, rfl, .int i, rfl, .int i, _, rfl, iteT ?_⟩
    refine ⟨_, rfl, _, rfl, lo, i, rfl, rfl, _, rfl, ite2 (fun e => ?_) (fun e => ?_)⟩
    · refine ⟨_, rfl, i, hi, rfl, rfl, ?_⟩
      rw [e, Bool.true_and] at q
      exact q
    · rw [Bool.not_eq_true] at e
      rw [e, Bool.false_and] at q
      exact q
def sp_need_within : Sp := fun vs H Q _ => ∃ i lo hi : Int, vs = [.int i, .int lo, .int hi] ∧ lo ≤ i ∧ i ≤ hi ∧ Q .non H
theorem c_need_within (T : Txt K mg C) : C8.Cal P w K mg base 3 "need_within" sp_need_within [] := by
  refine calF T.d_need_within sc_need_within (fun vs H Q E h => ?_) (fun f cdv A outer s H vs Q E hr h => ?_)
  · obtain ⟨i, lo, hi, rfl, _⟩ := h; rfl
  · obtain ⟨i, lo, hi, rfl, h1, h2, q⟩ := h
    refine ⟨_, (pss_one (ps_if (pt_not (pt_val (C8.pe_c (c_is_within T) hr (by decide) (by rfl) (pa_cons (pv 0) (pa_cons (pv 1) (pa_cons (pv 2) pa_nil))))))
    (pss_one ps_never)
    pss_nil)), ?_⟩
    refine ⟨_, rfl, _, rfl, _, rfl, i, lo, hi, rfl, _, rfl, ?_⟩
    rw [decide_eq_true h1, decide_eq_true h2]
    exact iteF q
theorem len_line {w : List Nat} (h : w.length ≤ 1000000) : (S w).length ≤ sizeLine := by rw [S_len, sizeLine_eq]; omega
def sp_is_lettered : Sp := fun vs H Q _ => ∃ (z : List Nat) (m : Nat), vs = [.str (S z), .int m] ∧ z.length ≤ 1000000 ∧ Low z ∧ Q (.bl (decide (z.length ≤ m))) H
theorem S_nil {z : List Nat} (h : (S z : Str) = "") : z = [] := by
  have := congrArg Str.length h
  rw [S_len] at this
  exact List.length_eq_zero_iff.mp this
theorem c_is_lettered (T : Txt K mg C) : C8.Cal P w K mg base 1 "is_lettered" sp_is_lettered [] := by
  refine calF T.d_is_lettered sc_is_lettered (fun vs H Q E h => ?_) (fun f cdv A outer s H vs Q E hr h => ?_)
  · obtain ⟨_, _, rfl, _⟩ := h; rfl
  · obtain ⟨z, m, rfl, hl, lw, q⟩ := h
    refine ⟨_, (pss_cons (ps_if (PW.pt (pw_or (pt_not (pt_val (pe_callB call_isK (by rfl) T.m_isinstance (by decide +kernel) (pa_cons (pv 0) (pa_cons (pe_bltn (v := .ty "str") (by rfl) T.m_str (by decide +kernel) rfl) pa_nil))))) (pw_or1 (pt_cmpR op_gt (pe_callB call_len_str (by rfl) T.m_len (by decide +kernel) (pa_cons (pv 0) pa_nil)) (pv 1) (nomark _)))))
    (pss_one (ps_ret pe_bl))
    pss_nil)
    (pss_one (ps_ret (pe_or (pe_cmpR op_eq (pv 0) pe_str (nomark _)) (pe_one (pe_and (pe_m0 PySem.F.slot_str_isascii PySem.F.type_str_isascii mt_isascii (pv 0)) (pe_and (pe_m0 PySem.F.slot_str_isalpha PySem.F.type_str_isalpha mt_isalpha (pv 0)) (pe_one (pe_m0 PySem.F.slot_str_islower PySem.F.type_str_islower mt_islower (pv 0)))))))))), ?_⟩
    refine ⟨_, rfl, .str (S z), "str", true, rfl, .str _, by show kitB "str" "str" = some true; decide +kernel, _, rfl, iteF ?_⟩
    refine ⟨_, rfl, S z, rfl, len_line hl, _, rfl, _, m, rfl, rfl, _, rfl, ?_⟩
    rw [S_len]
    by_cases hm : ¬ z.length ≤ m
    · rw [decide_eq_false hm] at q
      rw [decide_eq_true (show (z.length : Int) > m by omega)]
      exact iteT q
    rw [decide_eq_true (show z.length ≤ m by omega)] at q
    rw [decide_eq_false (show ¬ (z.length : Int) > m by omega)]
    refine iteF ⟨_, rfl, rfl, _, rfl, ite2 (fun e => q) fun e => ?_⟩
    have ne : z ≠ [] := fun y => e (by rw [y]; decide +kernel)
    refine ⟨_, rfl, ⟨_, rfl⟩, _, rfl, rfl, trivial, _, rfl, ?_⟩
    rw [low_ascii lw]
    refine iteT ⟨_, rfl, ⟨_, rfl⟩, _, rfl, rfl, trivial, _, rfl, ?_⟩
    rw [low_alpha lw ne]
    refine iteT ⟨_, rfl, ⟨_, rfl⟩, _, rfl, rfl, trivial, ?_⟩
    rw [low_lower lw ne]
    exact q
def sp_need_many : Sp := fun vs H Q _ => ∃ i : Int, vs = [.int i] ∧ 0 ≤ i ∧ i ≤ 3 ∧ Q .non H
theorem c_need_many (T : Txt K mg C) : C8.Cal P w K mg base 4 "need_many" sp_need_many [] := by
  refine calF T.d_need_many sc_need_many (fun vs H Q E h => ?_) (fun f cdv A outer s H vs Q E hr h => ?_)
  · obtain ⟨v, rfl, _⟩ := h; rfl
  · obtain ⟨i, rfl, h1, h2, q⟩ := h
    refine ⟨_, (pss_one (ps_expr (C8.pe_c (c_need_within T) hr (by decide) (by rfl) (pa_cons (pv 0) (pa_cons pe_int (pa_cons (C8.pe_gc (by rfl) T.k_MOST_UNKNOWNS) pa_nil)))))), ?_⟩
    exact ⟨_, rfl, i, 0, 3, rfl, h1, h2, q⟩
/-- what is_form_for says of a value -/
def formB (H : Hp) (m : Int) : V → Bool
  | .ref a => match H a with
    | some (.tup xs) => decide ((xs.length : Int) = m + 1) && xs.all isC
    | _ => false
  | _ => false
theorem formB_tup {H : Hp} {m : Int} {a : Addr} {xs : List V} (h : H a = some (.tup xs)) : formB H m (.ref a) = (decide ((xs.length : Int) = m + 1) && xs.all isC) := by simp only [formB, h]
def sp_is_form_for : Sp := fun vs H Q _ => ∃ (m : Int) (v : V), vs = [.int m, v] ∧ Kn H v ∧ (∀ a xs, v = .ref a → H a = some (.tup xs) → xs.length < sizeLine ∧ ∀ x ∈ xs, Kn H x) ∧ ∀ H', Same H H' → Q (.bl (formB H m v)) H'
theorem c_is_form_for (T : Txt K mg C) : C8.Cal P w K mg base 3 "is_form_for" sp_is_form_for [] := by
  refine calF T.d_is_form_for sc_is_form_for (fun vs H Q E h => ?_) (fun f cdv A outer s H vs Q E hr h => ?_)
  · obtain ⟨_, _, rfl, _⟩ := h; rfl
  · obtain ⟨m, v, rfl, kn, ht, q⟩ := h
    refine ⟨_, (pss_one (ps_ret (pe_and (pe_callB call_isK (by rfl) T.m_isinstance (by decide +kernel) (pa_cons (pv 1) (pa_cons (pe_bltn (v := .ty "tuple") (by rfl) T.m_tuple (by decide +kernel) rfl) pa_nil))) (pe_and (pe_cmpR op_eq (pe_callB call_len_seq (by rfl) T.m_len (by decide +kernel) (pa_cons (pv 1) pa_nil)) (pe_op op_add (pv 0) pe_int) (nomark _)) (pe_one (pe_callB (cr_all rfl) (by rfl) T.m_all (by decide +kernel) (pa_cons (pe_lc (own := [("number", 2)]) (by rfl) sc_is_form_for.nd (pi_tup (pv 1)) (blkOk_by (N := ["many", "value", "number"]) (sc := C8.fnScope (topS 17)) (own := [("number", 2)]) (by decide +kernel)) (fun _ _ _ _ _ => (pg_name (i := 2) sc_is_form_for.nd rfl (Or.inl rfl))) (fun _ _ _ _ _ => pts_nil) (fun _ _ _ _ _ => (C8.pe_c (c_is_count T) hr (by decide) (by rfl) (pa_cons (pv 2) pa_nil)))) pa_nil))))))), ?_⟩
    refine ⟨_, rfl, v, "tuple", _, rfl, kn, kit_tuple kn, _, rfl, ite2 (fun e => ?_) (fun e => ?_)⟩
    · cases kn <;> first | (exact absurd e Bool.false_ne_true) | skip
      · rename_i a xs ha
        simp only [isTu, ha] at e
        exact absurd e (by decide)
      · rename_i a xs ha
        obtain ⟨hl, hk⟩ := ht a xs rfl ha
        rw [formB_tup ha] at q
        refine ⟨_, rfl, a, xs, rfl, .inr (.inl (.inl ha)), _, rfl, _, _, rfl, rfl, rfl, _, rfl, ite2 (fun e => ?_) (fun e => ?_)⟩
        · have e' : (xs.length : Int) = m + 1 := V.int.inj (of_decide_eq_true e)
          rw [decide_eq_true e', Bool.true_and] at q
          refine ⟨_, rfl, a, rfl, ⟨xs, .inl (.inl ha)⟩, ?_⟩
          refine fun D hD => lcT_map (fun x => .bl (isC x)) ha hl (fun i x H' R hx s q' => ?_) hD fun H' s hL => ?_
          · exact ⟨rfl, x, rfl, x, rfl, (hk x (List.mem_of_getElem? hx)).same s, q' _ (Same.refl _)⟩
          refine ⟨D, xs.map isC, rfl, .inl (.inl (by rw [hL, List.map_map]; rfl)), ?_⟩
          rw [List.all_map]
          exact q H' s
        · have e' : ¬ (xs.length : Int) = m + 1 := fun z => e (by rw [z]; exact decide_eq_true rfl)
          rw [decide_eq_false e', Bool.false_and] at q
          exact q H (Same.refl _)
    · rw [show formB H m v = false by
        cases kn <;> first | rfl | skip
        · rename_i a xs ha
          simp only [formB, ha]
        · rename_i a xs ha
          exact absurd (isTu_tup ha) e] at q
      exact q H (Same.refl _)

theorem kn_nats {H : Hp} {ns : List Nat} : ∀ x ∈ ns.map (fun n : Nat => V.int (n : Nat)), Kn H x := fun x hx => by
  obtain ⟨i, _, rfl⟩ := List.mem_map.mp hx
  exact .int _
/-- a form in the heap -/
def FT (H : Hp) (a : Addr) (f : F) : Prop := H a = some (.tup (f.map fun n : Nat => V.int (n : Nat)))
theorem FT.same {H H' : Hp} {a : Addr} {f : F} (h : FT H a f) (s : Same H H') : FT H' a f := s _ _ h
theorem formB_FT {H : Hp} {m : Nat} {a : Addr} {f : F} (h : FT H a f) (hl : f.length = m + 1) : formB H m (.ref a) = true := by
  rw [formB_tup h, List.length_map, hl, decide_eq_true (show ((m + 1 : Nat) : Int) = (m : Int) + 1 by omega), Bool.true_and, List.all_map, List.all_eq_true]
  exact fun x hx => decide_eq_true (show (0 : Int) ≤ ((x : Nat) : Int) by omega)
end
end K41

set_option Elab.async false
set_option linter.all false
set_option maxRecDepth 100000
set_option maxHeartbeats 4000000
namespace K41
open PySem PySem.Spec PyProof.Rows L2 CK SX NM
theorem re_st {t : TS} {D : Ends} {σ σ' : L2.St} {H : Hp} (e : σ = σ') (h : t D σ' H) : t D σ H := by
  subst e
  exact h
theorem slice_mid {a : List Nat} {i j : Nat} (h : i ≤ j) (hj : j ≤ a.length) : Txt.slice (S a) (some (i : Int)) (some (j : Int)) = S ((a.drop i).take (j - i)) := by
  have e := beq_iff_eq.mp (slice_closesL (x := S a) (i := (i : Int)) (j := (j : Int)) (by omega) (by omega) (by rw [S_len]; omega))
  refine e.trans (TL.ext_tl ?_)
  show (a.drop (i : Int).toNat).take ((j : Int) - (i : Int)).toNat = (a.drop i).take (j - i)
  congr 1
  omega
theorem lcp_mid {a b : WM.W} {lo mid : Nat} (h1 : lo ≤ WM.lcp a b) (h2 : lo ≤ mid) (ha : mid ≤ a.length) (hb : mid ≤ b.length) :
    (a.drop lo).take (mid - lo) = (b.drop lo).take (mid - lo) ↔ mid ≤ WM.lcp a b := by
  have sp : ∀ z : WM.W, z.take mid = z.take lo ++ (z.drop lo).take (mid - lo) := fun z => by
    have : mid = lo + (mid - lo) := by omega
    conv => lhs; rw [this]
    rw [List.take_add]
  rw [← WM.lcp_iff ha hb, sp a, sp b, WM.lcp_take a b lo h1]
  constructor
  · intro h
    rw [h]
  · intro h
    exact List.append_cancel_left h
section
variable {X : Cx}
/-- s * n, up to a million letters -/
theorem op_repM : OpR X (binaryOp .Mult) (fun x y H Q => ∃ (z : List Nat) (n : Nat), x = .str (S z) ∧ y = .int n ∧ n ≤ 1000000 ∧ z.length ≤ 1000000 ∧ n * z.length ≤ 1000000 ∧ Q (.str (S (List.replicate n z).flatten)) H) := by
  intro pins s σ H x y v u Q I rx ry h
  obtain ⟨z, n, rfl, rfl, hn, hz, hm, q⟩ := h
  obtain ⟨t, rfl⟩ := rx
  obtain ⟨t', rfl⟩ := ry
  have hl : (List.replicate n z).flatten.length = n * z.length := by simp
  refine P.mul_str (by simp; omega) (fun h1 h2 => ?_) (fun h1 h2 => ?_) ?_
  · rw [S_len]
    have hn0 : (0 : Int) < n := by omega
    have h3 : (1000000 : Int) ≤ (2 ^ 63 - 1) / (n : Int) := by
      refine (Int.le_ediv_iff_mul_le hn0).mpr ?_
      have : (1000000 : Int) * n ≤ 1000000 * 1000000 := Int.mul_le_mul_of_nonneg_left (by omega) (by decide)
      omega
    omega
  · rw [S_len, Int.toNat_natCast, Nat.mul_comm]
    have : n * z.length ≤ sizeLine := by rw [sizeLine_eq]; omega
    unfold Builtin.Str.tooLong
    simp
    omega
  · by_cases h1 : (n : Int) < 1
    · rw [if_pos h1]
      have e : n = 0 := by omega
      subst e
      exact ⟨by decide, .str _, H, I.tok _, ⟨_, rfl⟩, q⟩
    · rw [if_neg h1]
      by_cases h2 : ((n : Int) == 1 || (S z).length == 0) = true
      · rw [if_pos h2]
        have e : (List.replicate n z).flatten = z := by
          rw [Bool.or_eq_true, beq_iff_eq, beq_iff_eq, S_len] at h2
          rcases h2 with h2 | h2
          · have : n = 1 := by omega
            subst this
            simp
          · rw [List.length_eq_zero_iff.mp h2]
            simp
        rw [e] at q
        exact ⟨.str _, H, I, ⟨_, rfl⟩, q⟩
      · rw [if_neg h2]
        have e : (⟨(List.replicate (n : Int).toNat (S z).cps).foldl (· ++ ·) #[]⟩ : Str) = S (List.replicate n z).flatten := by
          refine TL.ext_tl ?_
          show ((List.replicate (n : Int).toNat (S z).cps).foldl (· ++ ·) #[]).toList = _
          rw [Int.toNat_natCast, foldl_arr]
          rfl
        rw [e]
        exact ⟨by rw [S_len, hl, sizeLine_eq]; omega, .str _, H, I.tok _, ⟨_, rfl⟩, q⟩
end
section
variable {P : Program} {w : World} {K : PySem.W.Frag} {mg : Str → Option Value} {base : Heap} {C : Addr}
/-! ### words -/
theorem fmodZ (i : Int) {n : Nat} (h : n ≠ 0) : ∃ k : Nat, i.fmod (n : Int) = k ∧ k < n := by
  have h0 : 0 ≤ i.fmod (n : Int) := Int.fmod_nonneg_of_pos i (by omega)
  have h1 : i.fmod (n : Int) < n := Int.fmod_lt_of_pos i (by omega)
  exact ⟨(i.fmod n).toNat, by omega, by omega⟩
def rotZ (z : List Nat) (i : Int) : List Nat := z.drop (i.fmod (z.length : Int)).toNat ++ z.take (i.fmod (z.length : Int)).toNat
theorem fmod_neg (k : Nat) {n : Nat} (h : 0 < n) : (-(k : Int)).fmod (n : Int) = (((n - k % n) % n : Nat) : Int) := by
  have hm := Nat.mod_lt k h
  have hd := Nat.mod_add_div k n
  rw [Int.fmod_eq_emod_of_nonneg _ (by omega)]
  have e : (-(k : Int)) = ((n - k % n : Nat) : Int) + (n : Int) * (-((k / n : Nat) : Int) - 1) := by
    have : ((n - k % n : Nat) : Int) = (n : Int) - ((k % n : Nat) : Int) := by omega
    rw [this]
    have h2 : (k : Int) = ((k % n : Nat) : Int) + (n : Int) * ((k / n : Nat) : Int) := by
      have := congrArg (fun z : Nat => (z : Int)) hd
      simp only [Int.natCast_add, Int.natCast_mul] at this
      exact this.symm
    rw [Int.mul_sub, Int.mul_neg, Int.mul_one]
    omega
  rw [e, Int.add_mul_emod_self_left]
  rfl
theorem rotZ_neg {z : List Nat} (h : z ≠ []) (k : Nat) : rotZ z (-(k : Int)) = rotR z k := by
  have n0 := List.length_pos_iff.mpr h
  unfold rotZ rotR
  rw [fmod_neg k n0, Int.toNat_natCast]
  by_cases e : k % z.length = 0
  · rw [e, Nat.sub_zero, Nat.mod_self]
    simp
  · have hm := Nat.mod_lt k n0
    rw [Nat.mod_eq_of_lt (show z.length - k % z.length < z.length by omega)]
def sp_turned : Sp := fun vs H Q _ => ∃ (z : List Nat) (k : Int), vs = [.str (S z), .int k] ∧ z.length ≤ 1000000 ∧ z ≠ [] ∧ Q (.str (S (rotZ z k))) H
theorem c_turned_word (T : Txt K mg C) : C8.Cal P w K mg base 1 "turned_word" sp_turned [] := by
  refine calF T.d_turned_word sc_turned_word (fun vs H Q E h => ?_) (fun f cdv A outer s H vs Q E hr h => ?_)
  · obtain ⟨_, _, rfl, _⟩ := h; rfl
  · obtain ⟨z, k, rfl, hl, ne, q⟩ := h
    have n0 := List.length_pos_iff.mpr ne
    refine ⟨_, (pss_cons (ps_if (pt_not (pt_truth (pv 0) (by intro _; rfl)))
    (pss_one (ps_ret (pv 0)))
    pss_nil)
    (pss_cons (ps_set (i := 2) sc_turned_word.nd rfl (Or.inl rfl) (pe_op op_modN (pv 1) (pe_callB call_len_str (by rfl) T.m_len (by decide +kernel) (pa_cons (pv 0) pa_nil))))
    (pss_one (ps_ret (pe_op op_add_str (pe_slice C8.sl_txt (pv 0) (po_some (pv 2)) po_none) (pe_slice C8.sl_txt (pv 0) po_none (po_some (pv 2)))))))), ?_⟩
    refine ⟨_, rfl, true, ⟨len_line hl, by rw [S_len]; symm; rw [bne_iff_ne]; omega⟩, iteF ?_⟩
    obtain ⟨m, hm, hlt⟩ := fmodZ k (show z.length ≠ 0 by omega)
    refine ⟨_, rfl, _, rfl, S z, rfl, len_line hl, k, z.length, rfl, congrArg (fun n : Nat => V.int n) (S_len z), by omega, ?_⟩
    refine ⟨_, rfl, _, rfl, m, congrArg V.int hm, S z, rfl, len_line hl, _, rfl, _, rfl, m, congrArg V.int hm, S z, rfl, len_line hl, ?_⟩
    rw [SX.slice_from (by omega), SX.slice_to (by omega), Int.toNat_natCast]
    refine ⟨_, _, rfl, rfl, ?_, ?_⟩
    · rw [S_len, S_len, List.length_drop, List.length_take, sizeLine_eq]
      omega
    · rw [S_cat]
      unfold rotZ at q
      rw [hm, Int.toNat_natCast] at q
      exact q
theorem stretch_tail {u : List Nat} (h : u ≠ []) (n k : Nat) (hk : (u.length - n % u.length) % u.length + n ≤ u.length * k) :
    ((List.replicate k u).flatten.drop ((u.length - n % u.length) % u.length)).take n = tailE u n := by
  have n0 := List.length_pos_iff.mpr h
  have l : (List.replicate k u).flatten.length = u.length * k := WM.pw_len u k
  refine List.ext_getElem? fun i => ?_
  by_cases hi : i < n
  · rw [List.getElem?_take_of_lt hi, List.getElem?_drop, tailE_get h hi]
    have := WM.pw_get h k ((u.length - n % u.length) % u.length + i) (by omega)
    unfold WM.pw at this
    rw [this]
    congr 1
    rw [Nat.mod_add_mod, Nat.add_comm]
  · rw [List.getElem?_eq_none (by rw [List.length_take]; omega), List.getElem?_eq_none (by rw [tailE_len h]; omega)]
def sp_stretch : Sp := fun vs H Q _ => ∃ (u : List Nat) (n : Nat), vs = [.str (S u), .int (-(n : Int)), .int n] ∧ u ≠ [] ∧ u.length ≤ 100000 ∧ n ≤ 100000 ∧ Q (.str (S (tailE u n))) H
theorem c_stretch (T : Txt K mg C) : C8.Cal P w K mg base 1 "stretch" sp_stretch [] := by
  refine calF T.d_stretch sc_stretch (fun vs H Q E h => ?_) (fun f cdv A outer s H vs Q E hr h => ?_)
  · obtain ⟨_, _, rfl, _⟩ := h; rfl
  · obtain ⟨u, n, rfl, ne, hu, hn, q⟩ := h
    have n0 := List.length_pos_iff.mpr ne
    refine ⟨_, (pss_cons (ps_set (i := 3) sc_stretch.nd rfl (Or.inl rfl) (pe_op op_modN (pv 1) (pe_callB call_len_str (by rfl) T.m_len (by decide +kernel) (pa_cons (pv 0) pa_nil))))
    (pss_one (ps_ret (pe_slice C8.sl_txt (pe_op op_repM (pv 0) (pe_op op_add (pe_op op_fdivZ (pe_op op_add (pv 3) (pv 2)) (pe_callB call_len_str (by rfl) T.m_len (by decide +kernel) (pa_cons (pv 0) pa_nil))) pe_int)) (po_some (pv 3)) (po_some (pe_op op_add (pv 3) (pv 2))))))), ?_⟩
    have hm := fmod_neg n n0
    generalize ha : (u.length - n % u.length) % u.length = a at hm
    have alt : a < u.length := by rw [← ha]; exact Nat.mod_lt _ n0
    refine ⟨_, rfl, _, rfl, S u, rfl, len_line (by omega), -(n : Int), u.length, rfl, congrArg (fun n : Nat => V.int n) (S_len u), by omega, ?_⟩
    have hdm := Nat.div_add_mod (a + n) u.length
    have hml := Nat.mod_lt (a + n) n0
    have dl : (a + n) / u.length ≤ a + n := Nat.div_le_self _ _
    refine ⟨_, rfl, _, rfl, _, rfl, a, n, congrArg V.int hm, rfl, _, rfl, S u, rfl, len_line (by omega), a + n, u.length, congrArg V.int (by omega), congrArg (fun n : Nat => V.int n) (S_len u), by omega, by omega, _, _, rfl, rfl, u, (a + n) / u.length + 1, rfl, congrArg V.int (by omega), by omega, by omega, ?_, ?_⟩
    · rw [Nat.add_mul, Nat.one_mul, Nat.mul_comm]
      omega
    · have l : (List.replicate ((a + n) / u.length + 1) u).flatten.length = u.length * ((a + n) / u.length + 1) := WM.pw_len u _
      have hle : a + n ≤ u.length * ((a + n) / u.length + 1) := by rw [Nat.mul_succ]; omega
      refine ⟨_, rfl, a, congrArg V.int hm, _, rfl, _, rfl, a, n, congrArg V.int hm, rfl, ((a + n : Nat) : Int), congrArg V.int (by omega), S _, rfl, ?_, ?_⟩
      · rw [S_len, l, Nat.mul_succ, sizeLine_eq]
        omega
      · rw [slice_mid (by omega) (by rw [l]; exact hle), show a + n - a = n by omega, ← ha, stretch_tail ne n _ (by rw [ha]; exact hle)]
        exact q
def sp_alike : Sp := fun vs H Q _ => ∃ (a b : List Nat), vs = [.str (S a), .str (S b)] ∧ a.length ≤ 1000000 ∧ b.length ≤ 1000000 ∧ Q (.int (WM.lcp a b : Nat)) H
theorem c_alike_ahead (T : Txt K mg C) : C8.Cal P w K mg base 1 "alike_ahead" sp_alike [] := by
  refine calF T.d_alike_ahead sc_alike_ahead (fun vs H Q E h => ?_) (fun f cdv A outer s H vs Q E hr h => ?_)
  · obtain ⟨_, _, rfl, _⟩ := h; rfl
  · obtain ⟨a, b, rfl, ha, hb, q⟩ := h
    refine ⟨_, (pss_cons (ps_par (i := 2) (j := 3) (by rfl) sc_alike_ahead.nd rfl rfl (by decide) rfl rfl (pa_cons pe_int (pa_cons (pe_callB (call_min2 rfl) (by rfl) T.m_min (by decide +kernel) (pa_cons (pe_callB call_len_str (by rfl) T.m_len (by decide +kernel) (pa_cons (pv 0) pa_nil)) (pa_cons (pe_callB call_len_str (by rfl) T.m_len (by decide +kernel) (pa_cons (pv 1) pa_nil)) pa_nil))) pa_nil)) (by rfl))
    (pss_cons (ps_if (pt_cmpR op_eq (pe_slice C8.sl_txt (pv 0) po_none (po_some (pv 3))) (pe_slice C8.sl_txt (pv 1) po_none (po_some (pv 3))) (nomark _))
    (pss_one (ps_ret (pv 3)))
    pss_nil)
    (pss_cons (ps_while PassesOwn.never (pt_cmpR op_gt (pe_op op_sub (pv 3) (pv 2)) pe_int (nomark _))
    (pss_cons (ps_set (i := 4) sc_alike_ahead.nd rfl (Or.inl rfl) (pe_op op_fdivZ (pe_op op_add (pv 2) (pv 3)) pe_int))
    (pss_one (ps_if (pt_cmpR op_eq (pe_slice C8.sl_txt (pv 0) (po_some (pv 2)) (po_some (pv 4))) (pe_slice C8.sl_txt (pv 1) (po_some (pv 2)) (po_some (pv 4))) (nomark _))
    (pss_one (ps_set (i := 2) sc_alike_ahead.nd rfl (Or.inl rfl) (pv 4)))
    (pss_one (ps_set (i := 3) sc_alike_ahead.nd rfl (Or.inl rfl) (pv 4)))))))
    (pss_one (ps_ret (pv 2)))))), ?_⟩
    have lle := WM.lcp_le a b
    obtain ⟨m, hma, hmb, hm, hmm⟩ : ∃ m : Nat, m ≤ a.length ∧ m ≤ b.length ∧ (if (((S b).length : Nat) : Int) < (((S a).length : Nat) : Int) then (((S b).length : Nat) : Int) else (((S a).length : Nat) : Int)) = m ∧ (a.length ≤ m ∨ b.length ≤ m) := by
      rw [S_len, S_len]
      by_cases z : (b.length : Int) < a.length
      · exact ⟨b.length, by omega, by omega, if_pos z, .inr (Nat.le_refl _)⟩
      · exact ⟨a.length, by omega, by omega, if_neg z, .inl (Nat.le_refl _)⟩
    refine ⟨_, rfl, S a, rfl, len_line ha, _, rfl, S b, rfl, len_line hb, _, _, rfl, .int 0, .int m, congrArg (fun z => [V.int 0, V.int z]) hm, ?_⟩
    refine ⟨_, rfl, _, rfl, m, rfl, S a, rfl, len_line ha, _, rfl, _, rfl, m, rfl, S b, rfl, len_line hb, rfl, _, rfl, ?_⟩
    rw [SX.slice_to (by omega), SX.slice_to (by omega), Int.toNat_natCast]
    refine ite2 (fun e => ?_) (fun e => ?_)
    · have e' := S_inj (V.str.inj (of_decide_eq_true e))
      have := WM.le_lcp a b m hma hmb e'
      refine ⟨_, rfl, ?_⟩
      rw [show m = WM.lcp a b by omega]
      exact q
    · have e' : WM.lcp a b < m := by
        by_cases z : WM.lcp a b < m
        · exact z
        · exact absurd (decide_eq_true (congrArg (fun l => V.str (S l)) (WM.lcp_take a b m (by omega)))) e
      refine while_by (fun σ H' => H' = H ∧ ∃ (lo hi : Nat) (zl zh : Int) (y : Option V), σ = [some (.str (S a)), some (.str (S b)), some (.int zl), some (.int zh), y] ∧ zl = lo ∧ zh = hi ∧ lo ≤ WM.lcp a b ∧ WM.lcp a b < hi ∧ hi ≤ m)
        (fun σ _ => match σ with | [_, _, some (.int zl), some (.int zh), _] => (zh - zl).toNat | _ => 0) ?_ (fun σ H' p => ?_) ?_
      · exact ⟨rfl, 0, m, _, _, none, rfl, rfl, rfl, Nat.zero_le _, e', Nat.le_refl _⟩
      · obtain ⟨rfl, lo, hi, zl, zh, y, rfl, rfl, rfl, h1, h2, h3⟩ := p
        refine ⟨_, rfl, _, rfl, _, _, rfl, rfl, _, _, rfl, rfl, _, rfl, ite2 (fun c => ?_) (fun c => ?_)⟩
        · have c' : lo + 1 < hi := by
            have := of_decide_eq_true c
            omega
          refine ⟨_, rfl, _, rfl, _, _, rfl, rfl, lo + hi, 2, congrArg V.int (by omega), rfl, by decide, by decide, ?_⟩
          have m1 : lo < (lo + hi) / 2 := by omega
          have m2 : (lo + hi) / 2 < hi := by omega
          generalize (lo + hi) / 2 = md at m1 m2
          refine ⟨_, rfl, _, rfl, lo, rfl, _, rfl, md, rfl, S a, rfl, len_line ha, _, rfl, _, rfl, lo, rfl, _, rfl, md, rfl, S b, rfl, len_line hb, rfl, _, rfl, ?_⟩
          rw [slice_mid (by omega) (by omega), slice_mid (by omega) (by omega)]
          have iff := lcp_mid (a := a) (b := b) (lo := lo) (mid := md) h1 (by omega) (by omega) (by omega)
          refine ite2 (fun d => ?_) (fun d => ?_)
          · have d' := iff.mp (S_inj (V.str.inj (of_decide_eq_true d)))
            refine ⟨_, rfl, ⟨rfl, md, hi, _, _, _, rfl, rfl, rfl, d', h2, h3⟩, ?_⟩
            show ((hi : Int) - ((md : Nat) : Int)).toNat < ((hi : Int) - (lo : Int)).toNat
            omega
          · have d' : WM.lcp a b < md := by
              by_cases z : WM.lcp a b < md
              · exact z
              · exact absurd (decide_eq_true (congrArg (fun l => V.str (S l)) (iff.mpr (by omega)))) d
            refine ⟨_, rfl, ⟨rfl, lo, md, _, _, _, rfl, rfl, rfl, h1, d', by omega⟩, ?_⟩
            show (((md : Nat) : Int) - (lo : Int)).toNat < ((hi : Int) - (lo : Int)).toNat
            omega
        · have c' : lo = WM.lcp a b := by
            have : ¬ ((hi : Int) - lo > 1) := fun z => c (decide_eq_true z)
            omega
          subst c'
          exact ⟨_, rfl, q⟩
      · intro σ H' Q1 Q2 hq h
        obtain ⟨a1, h1, a2, h2, a3, a4, h3, h4, a5, a6, h5, h6, k, h7, h⟩ := h
        exact ⟨a1, h1, a2, h2, a3, a4, h3, h4, a5, a6, h5, h6, k, h7, hq _ _ h⟩
def sp_behind : Sp := fun vs H Q _ => ∃ (a b : List Nat), vs = [.str (S a), .str (S b)] ∧ a.length ≤ 1000000 ∧ b.length ≤ 1000000 ∧ Q (.int (WM.lcp a.reverse b.reverse : Nat)) H
theorem c_alike_behind (T : Txt K mg C) : C8.Cal P w K mg base 2 "alike_behind" sp_behind [] := by
  refine calF T.d_alike_behind sc_alike_behind (fun vs H Q E h => ?_) (fun f cdv A outer s H vs Q E hr h => ?_)
  · obtain ⟨_, _, rfl, _⟩ := h; rfl
  · obtain ⟨a, b, rfl, ha, hb, q⟩ := h
    refine ⟨_, (pss_one (ps_ret (C8.pe_c (c_alike_ahead T) hr (by decide) (by rfl) (pa_cons (pe_revS (pv 0)) (pa_cons (pe_revS (pv 1)) pa_nil))))), ?_⟩
    refine ⟨_, rfl, a, rfl, by rw [sizeLine_eq]; omega, _, rfl, b, rfl, by rw [sizeLine_eq]; omega, a.reverse, b.reverse, rfl, by simpa using ha, by simpa using hb, q⟩
end
end K41

set_option Elab.async false
set_option linter.all false
set_option maxRecDepth 100000
set_option maxHeartbeats 4000000
namespace K41
open PySem PySem.Spec PyProof.Rows L2 CK SX NM
/-- the borders' sizes, up to the place i -/
def szL (z : List Nat) (i : Nat) : List Nat := (List.range z.length).map fun j => if j ≤ i then WM.lb (z.take (j + 1)) else 0
theorem szL_len (z : List Nat) (i : Nat) : (szL z i).length = z.length := by simp [szL]
theorem szL_get {z : List Nat} {i j : Nat} (h : j ≤ i) (hj : j < z.length) : (szL z i)[j]? = some (WM.lb (z.take (j + 1))) := by
  unfold szL
  rw [List.getElem?_map, List.getElem?_range hj]
  simp [h]
theorem szL_zero {z : List Nat} (h : z ≠ []) : szL z 0 = List.replicate z.length 0 := by
  refine List.ext_getElem? fun j => ?_
  unfold szL
  by_cases hj : j < z.length
  · rw [List.getElem?_map, List.getElem?_range hj, List.getElem?_replicate, if_pos hj]
    simp only [Option.map_some]
    split
    · rename_i e
      have : j = 0 := by omega
      subst this
      rw [WM.lb_one]
    · rfl
  · rw [List.getElem?_eq_none (by simp; omega), List.getElem?_eq_none (by simp; omega)]
theorem szL_set {z : List Nat} {i : Nat} (h : i + 1 < z.length) : (szL z i).set (i + 1) (WM.lb (z.take (i + 2))) = szL z (i + 1) := by
  refine List.ext_getElem? fun j => ?_
  by_cases hj : j < z.length
  · rw [List.getElem?_set]
    unfold szL
    by_cases e : i + 1 = j
    · subst e
      rw [if_pos rfl, if_pos (by simp; omega), List.getElem?_map, List.getElem?_range hj]
      simp
    · rw [if_neg e, List.getElem?_map, List.getElem?_map, List.getElem?_range hj]
      simp only [Option.map_some]
      congr 1
      by_cases a : j ≤ i
      · rw [if_pos a, if_pos (by omega)]
      · rw [if_neg a, if_neg (by omega)]
  · rw [List.getElem?_eq_none (by simp [szL]; omega), List.getElem?_eq_none (by simp [szL]; omega)]
def natsV (ns : List Nat) : List V := ns.map fun n : Nat => V.int (n : Nat)
theorem natsV_get {ns : List Nat} {i n : Nat} (h : ns[i]? = some n) : (natsV ns)[i]? = some (.int (n : Nat)) := by
  unfold natsV
  rw [List.getElem?_map, h]
  rfl
theorem natsV_set (ns : List Nat) (i n : Nat) : (natsV ns).set i (.int (n : Nat)) = natsV (ns.set i n) := by
  unfold natsV
  rw [List.map_set]
theorem natsV_len (ns : List Nat) : (natsV ns).length = ns.length := by simp [natsV]
section
variable {P : Program} {w : World} {K : PySem.W.Frag} {mg : Str → Option Value} {base : Heap} {C : Addr}
def sp_border : Sp := fun vs H Q _ => ∃ (z : List Nat), vs = [.str (S z)] ∧ z ≠ [] ∧ z.length ≤ 1000000 ∧ ∀ p H', Same H H' → H p = none → H' p = some (.lst (natsV (szL z (z.length - 1)))) → Q (.ref p) H'
theorem c_border_sizes (T : Txt K mg C) : C8.Cal P w K mg base 1 "border_sizes" sp_border [] := by
  refine calF T.d_border_sizes sc_border_sizes (fun vs H Q E h => ?_) (fun f cdv A outer s H vs Q E hr h => ?_)
  · obtain ⟨_, rfl, _⟩ := h; rfl
  · obtain ⟨z, rfl, ne, hz, q⟩ := h
    have n0 := List.length_pos_iff.mpr ne
    refine ⟨_, (pss_cons (ps_set (i := 1) sc_border_sizes.nd rfl (Or.inl rfl) (pe_op op_rep (pe_lst (pa_cons pe_int pa_nil)) (pe_callB call_len_str (by rfl) T.m_len (by decide +kernel) (pa_cons (pv 0) pa_nil))))
    (pss_cons (ps_set (i := 2) sc_border_sizes.nd rfl (Or.inl rfl) pe_int)
    (pss_cons (ps_for PassesOwn.never rfl (pi_range2 (by rfl) T.m_range (pa_cons pe_int (pa_cons (pe_callB call_len_str (by rfl) T.m_len (by decide +kernel) (pa_cons (pv 0) pa_nil)) pa_nil))) (pg_name (i := 3) sc_border_sizes.nd rfl (Or.inl rfl))
    (pss_cons (ps_while PassesOwn.never (PW.pt (pw_and (pt_truth (pv 2) (by intro _; rfl)) (pw_and1 (pt_cmpR op_ne (pe_ix ix_str (pv 0) (pv 3) (fun _ _ => rfl)) (pe_ix ix_str (pv 0) (pv 2) (fun _ _ => rfl)) (nomark _)))))
    (pss_one (ps_set (i := 2) sc_border_sizes.nd rfl (Or.inl rfl) (pe_ix ix_list (pv 1) (pe_op op_sub (pv 2) pe_int) (fun _ _ => rfl)))))
    (pss_cons (ps_if (pt_cmpR op_eq (pe_ix ix_str (pv 0) (pv 3) (fun _ _ => rfl)) (pe_ix ix_str (pv 0) (pv 2) (fun _ _ => rfl)) (nomark _))
    (pss_one (ps_aug (i := 2) sc_border_sizes.nd rfl (.inl rfl) pe_int ip_add))
    pss_nil)
    (pss_one (ps_asg (pv 2) (pg_sub (pv 1) (pv 3) set_list))))))
    (pss_one (ps_ret (pv 1)))))), ?_⟩
    refine ⟨by show 1 ≤ sizeLine; decide, fun L0 h0 => ⟨_, rfl, S z, rfl, len_line hz, L0, _, _, rfl, rfl, upd_same, by omega, by rw [S_len]; omega, by rw [S_len, sizeLine_eq]; simp; omega, fun p hp => ?_⟩⟩
    have s0 := (sameNew (o := .lst [V.int 0]) h0).trans (sameNew (o := .lst (List.replicate (((S z).length : Nat) : Int).toNat [V.int 0]).flatten) hp)
    have hp0 : H p = none := (sameNew (o := .lst [V.int 0]) h0).free hp
    have e0 : (List.replicate (((S z).length : Nat) : Int).toNat [V.int 0]).flatten = natsV (szL z 0) := by
      rw [S_len, Int.toNat_natCast, szL_zero ne]
      unfold natsV
      rw [List.map_replicate]
      generalize z.length = k
      induction k with
      | zero => rfl
      | succ k ih => rw [List.replicate_succ, List.flatten_cons, ih, List.replicate_succ]; rfl
    rw [e0] at s0 ⊢
    have hpl : (upd (upd H L0 (.lst [V.int 0])) p (.lst (natsV (szL z 0)))) p = some (.lst (natsV (szL z 0))) := upd_same
    generalize upd (upd H L0 (.lst [V.int 0])) p (.lst (natsV (szL z 0))) = H1 at s0 hpl
    refine ⟨_, rfl, S z, rfl, len_line hz, 1, _, rfl, ⟨by omega, by omega, by omega, by rw [S_len]; omega⟩, ?_⟩
    refine for_it walk_range (fun i σ H' => i ≤ z.length - 1 ∧ SameX p H1 H' ∧ H' p = some (.lst (natsV (szL z i))) ∧ ∃ (zs : Int) (y3 : Option V), σ = [some (.str (S z)), some (.ref p), some (.int zs), y3] ∧ zs = ((WM.lb (z.take (i + 1)) : Nat) : Int))
      ⟨by omega, .refl _ _, hpl, 0, none, rfl, by rw [WM.lb_one]; rfl⟩ (fun _ _ _ _ _ => True.intro) (fun i x σ H' H'' hi pI yy => ?_) fun σ H' pI => ?_
    · obtain ⟨_, s1, hl1, zs, y3, rfl, rfl⟩ := pI
      obtain ⟨rfl, rfl⟩ := yy
      have hi' : i + 1 < z.length := by
        have : i < ((((S z).length : Nat) : Int) - 1).toNat := hi
        rw [S_len] at this
        omega
      have zn : z[i + 1]? = some z[i + 1] := List.getElem?_eq_getElem hi'
      generalize z[i + 1] = cn at zn
      have cand0 : WM.Cand z (i + 1) (WM.lb (z.take (i + 1))) := WM.cand_start (by omega) (by omega)
      refine while_by (fun σ H2 => H2 = H'' ∧ ∃ (s' : Nat) (zs : Int), σ = [some (.str (S z)), some (.ref p), some (.int zs), some (.int (1 + (i : Int)))] ∧ zs = s' ∧ WM.Cand z (i + 1) s')
        (fun σ _ => match σ with | [_, _, some (.int zs), _] => zs.toNat | _ => 0) ⟨rfl, _, _, rfl, rfl, cand0⟩ (fun σ H2 pJ => ?_) ?_
      · obtain ⟨rfl, s', zs, rfl, rfl, cand⟩ := pJ
        have slt := cand.1
        have zk : z[s']? = some z[s'] := List.getElem?_eq_getElem (by omega)
        generalize z[s'] = ck at zk
        refine ⟨_, rfl, _, rfl, ?_⟩
        by_cases z0 : s' = 0
        · subst z0
          refine iteF ?_
          refine ⟨_, rfl, _, rfl, S z, 1 + (i : Int), cn, rfl, rfl, len_line hz, ?_, _, rfl, _, rfl, S z, ((0 : Nat) : Int), ck, rfl, rfl, len_line hz, atI_nat (xs := z) zk, rfl, _, rfl, ?_⟩
          · rw [show 1 + (i : Int) = ((i + 1 : Nat) : Int) by omega]
            exact atI_nat (xs := z) zn
          refine ite2 (fun e => ?_) (fun e => ?_)
          · have ec : cn = ck := by
              have := S_inj (a := [cn]) (b := [ck]) (V.str.inj (of_decide_eq_true e))
              simpa using this
            have hit := WM.cand_hit hi' cand (by rw [zk, zn, ec])
            refine ⟨_, rfl, _, _, rfl, rfl, _, rfl, _, rfl, _, rfl, p, _, 1 + (i : Int), i + 1, rfl, rfl, hl1, ?_, ?_⟩
            · unfold ixN
              rw [natsV_len, szL_len, if_pos (by omega), if_pos (by omega)]
              congr 1
              omega
            · refine ⟨by omega, fun b o hb e => by rw [upd_ne hb]; exact s1 b o hb e, ?_, _, _, rfl, by rw [show i + 1 + 1 = i + 2 by omega] at hit ⊢; rw [hit]; rfl⟩
              rw [upd_same]
              have := natsV_set (szL z i) (i + 1) (WM.lb (z.take (i + 2)))
              rw [szL_set hi', show i + 2 = i + 1 + 1 by omega, hit] at this
              rw [← this]
              rfl
          · have nc : z[0]? ≠ z[i + 1]? := by
              rw [zk, zn]
              intro y
              exact e (decide_eq_true (by rw [Option.some.inj y]))
            have miss := WM.cand_miss hi' cand nc
            refine ⟨_, rfl, _, rfl, _, rfl, p, _, 1 + (i : Int), i + 1, rfl, rfl, hl1, ?_, ?_⟩
            · unfold ixN
              rw [natsV_len, szL_len, if_pos (by omega), if_pos (by omega)]
              congr 1
              omega
            · refine ⟨by omega, fun b o hb e => by rw [upd_ne hb]; exact s1 b o hb e, ?_, _, _, rfl, by rw [miss]⟩
              rw [upd_same]
              have := natsV_set (szL z i) (i + 1) (WM.lb (z.take (i + 2)))
              rw [szL_set hi', show i + 2 = i + 1 + 1 by omega, miss] at this
              rw [← this]
        · have tz : ((((s' : Nat) : Int)) != 0) = true := by rw [bne_iff_ne]; omega
          rw [tz]
          refine iteT ?_
          refine ⟨_, rfl, _, rfl, S z, 1 + (i : Int), cn, rfl, rfl, len_line hz, ?_, _, rfl, _, rfl, S z, ((s' : Nat) : Int), ck, rfl, rfl, len_line hz, atI_nat (xs := z) zk, rfl, _, rfl, ?_⟩
          · rw [show 1 + (i : Int) = ((i + 1 : Nat) : Int) by omega]
            exact atI_nat (xs := z) zn
          by_cases ec : cn = ck
          · refine iteNS (by rw [ec]) ?_
            refine ⟨_, rfl, _, rfl, S z, 1 + (i : Int), cn, rfl, rfl, len_line hz, ?_, _, rfl, _, rfl, S z, ((s' : Nat) : Int), ck, rfl, rfl, len_line hz, atI_nat (xs := z) zk, rfl, _, rfl, ?_⟩
            · rw [show 1 + (i : Int) = ((i + 1 : Nat) : Int) by omega]
              exact atI_nat (xs := z) zn
            rw [ec, decide_eq_true rfl]
            have hit := WM.cand_hit hi' cand (by rw [zk, zn, ec])
            refine iteT ⟨_, rfl, _, _, rfl, rfl, _, rfl, _, rfl, _, rfl, p, _, 1 + (i : Int), i + 1, rfl, rfl, hl1, ?_, ?_⟩
            · unfold ixN
              rw [natsV_len, szL_len, if_pos (by omega), if_pos (by omega)]
              congr 1
              omega
            · refine ⟨by omega, fun b o hb e => by rw [upd_ne hb]; exact s1 b o hb e, ?_, _, _, rfl, by rw [show i + 1 + 1 = i + 2 by omega] at hit ⊢; rw [hit]; rfl⟩
              rw [upd_same]
              have := natsV_set (szL z i) (i + 1) (WM.lb (z.take (i + 2)))
              rw [szL_set hi', show i + 2 = i + 1 + 1 by omega, hit] at this
              rw [← this]
              rfl
          · have hd : z[s']? ≠ z[i + 1]? := by
              rw [zk, zn]
              intro y
              exact ec (Option.some.inj y).symm
            have down := WM.cand_down (by omega) cand (by omega) hd
            have : (!decide (V.str (S [cn]) = V.str (S [ck]))) = true := by
              rw [decide_eq_false (fun y => ec (by simpa using S_inj (a := [cn]) (b := [ck]) (V.str.inj y)))]
              rfl
            rw [show (⟨#[cn]⟩ : Str) = S [cn] from rfl, show (⟨#[ck]⟩ : Str) = S [ck] from rfl, this]
            have get := szL_get (z := z) (i := i) (j := s' - 1) (by omega) (by omega)
            rw [show s' - 1 + 1 = s' by omega] at get
            refine iteT ⟨_, rfl, _, rfl, _, _, rfl, rfl, p, _, _, .int ((WM.lb (z.take s') : Nat) : Int), rfl, rfl, .inl (.inl hl1), ?_, ⟨rfl, WM.lb (z.take s'), _, rfl, rfl, down⟩, ?_⟩
            · rw [show ((s' : Nat) : Int) - 1 = ((s' - 1 : Nat) : Int) by omega]
              exact atI_nat (natsV_get get)
            · show (((WM.lb (z.take s') : Nat) : Int)).toNat < (((s' : Nat) : Int)).toNat
              have := WM.lb_lt (w := z.take s') (fun y => by have := congrArg List.length y; rw [List.length_take, List.length_nil] at this; omega)
              rw [List.length_take] at this
              omega
      · intro σ H' Q1 Q2 hq h
        obtain ⟨a1, h1, k, h2, h⟩ := h
        refine ⟨a1, h1, k, h2, ?_⟩
        cases k with
        | false => exact hq _ _ h
        | true =>
          obtain ⟨a1, h1, a2, h2, a3, a4, a5, h3, h4, h5, h6, a6, h7, a7, h8, a8, a9, a10, h9, h10, h11, h12, h13, k, h14, h⟩ := h
          exact ⟨a1, h1, a2, h2, a3, a4, a5, h3, h4, h5, h6, a6, h7, a7, h8, a8, a9, a10, h9, h10, h11, h12, h13, k, h14, hq _ _ h⟩
    · obtain ⟨_, s1, hl1, zs, y3, rfl, rfl⟩ := pI
      have en : ((((S z).length : Nat) : Int) - 1).toNat = z.length - 1 := by rw [S_len]; omega
      rw [en] at hl1
      refine ⟨_, rfl, q p H' (fun b o e => ?_) hp0 hl1⟩
      have hb : b ≠ p := fun y => by rw [y, hp0] at e; cases e
      exact s1 _ _ hb (s0 _ _ e)
def sp_root : Sp := fun vs H Q _ => ∃ (z : List Nat), vs = [.str (S z)] ∧ z ≠ [] ∧ z.length ≤ 1000000 ∧ ∀ H', Same H H' → Q (.int (WM.rootN z : Nat)) H'
theorem c_root_size (T : Txt K mg C) : C8.Cal P w K mg base 2 "root_size" sp_root [] := by
  refine calF T.d_root_size sc_root_size (fun vs H Q E h => ?_) (fun f cdv A outer s H vs Q E hr h => ?_)
  · obtain ⟨_, rfl, _⟩ := h; rfl
  · obtain ⟨z, rfl, ne, hz, q⟩ := h
    have n0 := List.length_pos_iff.mpr ne
    have lt := WM.lb_lt ne
    refine ⟨_, (pss_cons (ps_set (i := 1) sc_root_size.nd rfl (Or.inl rfl) (pe_op op_sub (pe_callB call_len_str (by rfl) T.m_len (by decide +kernel) (pa_cons (pv 0) pa_nil)) (pe_ix ix_list (C8.pe_c (c_border_sizes T) hr (by decide) (by rfl) (pa_cons (pv 0) pa_nil)) (pe_un un_neg pe_int) (fun _ _ => rfl))))
    (pss_one (ps_ret (pe_ifExp (pt_truth (pe_op op_modZ (pe_callB call_len_str (by rfl) T.m_len (by decide +kernel) (pa_cons (pv 0) pa_nil)) (pv 1)) (by intro _; rfl)) (pe_callB call_len_str (by rfl) T.m_len (by decide +kernel) (pa_cons (pv 0) pa_nil)) (pv 1))))), ?_⟩
    refine ⟨_, rfl, S z, rfl, len_line hz, _, rfl, z, rfl, ne, hz, fun p H1 s1 n1 hp => ?_⟩
    have get := szL_get (z := z) (i := z.length - 1) (j := z.length - 1) (Nat.le_refl _) (by omega)
    rw [show z.length - 1 + 1 = z.length by omega, List.take_length] at get
    have e1 : (((S z).length : Nat) : Int) - ((WM.lb z : Nat) : Int) = ((z.length - WM.lb z : Nat) : Int) := by rw [S_len]; omega
    refine ⟨1, rfl, p, _, -1, .int (WM.lb z : Nat), rfl, rfl, .inl (.inl hp), ?_, _, _, rfl, rfl, ?_⟩
    · unfold atI ixN
      rw [natsV_len, szL_len, if_neg (by omega), if_pos (by omega)]
      show (natsV (szL z (z.length - 1)))[((-1 : Int) + z.length).toNat]? = _
      rw [show ((-1 : Int) + z.length).toNat = z.length - 1 by omega]
      exact natsV_get get
    · refine ⟨_, rfl, S z, rfl, len_line hz, _, rfl, z.length, z.length - WM.lb z, congrArg (fun n : Nat => V.int n) (S_len z), congrArg V.int e1, by omega, _, rfl, ?_⟩
      unfold WM.rootN at q
      by_cases m0 : z.length % (z.length - WM.lb z) = 0
      · rw [if_pos m0] at q
        rw [show ((((z.length % (z.length - WM.lb z) : Nat) : Int)) != 0) = false by rw [m0]; rfl]
        refine iteF ⟨_, rfl, ?_⟩
        show Q (V.int ((((S z).length : Nat) : Int) - ((WM.lb z : Nat) : Int))) H1
        rw [e1]
        exact q H1 s1
      · rw [if_neg m0] at q
        rw [show ((((z.length % (z.length - WM.lb z) : Nat) : Int)) != 0) = true by rw [bne_iff_ne]; omega]
        refine iteT ⟨_, rfl, S z, rfl, len_line hz, ?_⟩
        show Q (V.int (((S z).length : Nat) : Int)) H1
        rw [S_len]
        exact q H1 s1
/-! ### forms -/
theorem get_nat {xs : List Nat} {i : Nat} {v : V} (h : (xs.map fun n : Nat => V.int (n : Nat))[i]? = some v) : ∃ z, z ∈ xs ∧ xs[i]? = some z ∧ v = .int (z : Nat) := by
  rw [List.getElem?_map] at h
  cases e : xs[i]? with
  | none => rw [e] at h; cases h
  | some z =>
    rw [e] at h
    exact ⟨z, List.mem_of_getElem? e, rfl, (Option.some.inj h).symm⟩
def vAdd : V → V → V
  | .int i, .int j => .int (i + j)
  | _, _ => .non
theorem zip_addN : ∀ (xs ys : List Nat), List.zipWith vAdd (xs.map fun n : Nat => V.int (n : Nat)) (ys.map fun n : Nat => V.int (n : Nat)) = (addF xs ys).map fun n : Nat => V.int (n : Nat)
  | [], _ => by simp [addF]
  | _ :: _, [] => by simp [addF]
  | x :: xs, y :: ys => by
    show V.int ((x : Int) + (y : Int)) :: _ = V.int ((x + y : Nat) : Int) :: _
    rw [zip_addN xs ys]
    rfl
theorem small5 {n : Nat} (h : n ≤ 5) : n < sizeLine := small1000 (by omega)
def sp_form_sum : Sp := fun vs H Q _ => ∃ (a b : Addr) (f g : F), vs = [.ref a, .ref b] ∧ FT H a f ∧ FT H b g ∧ f.length ≤ 4 ∧ f.length = g.length ∧ ∀ p H', Same H H' → FT H' p (addF f g) → Q (.ref p) H'
theorem c_form_sum (T : Txt K mg C) : C8.Cal P w K mg base 1 "form_sum" sp_form_sum [] := by
  refine calF T.d_form_sum sc_form_sum (fun vs H Q E h => ?_) (fun f cdv A outer s H vs Q E hr h => ?_)
  · obtain ⟨_, _, _, _, rfl, _⟩ := h; rfl
  · obtain ⟨a, b, f, g, rfl, ha, hb, h4, hl, q⟩ := h
    refine ⟨_, (pss_one (ps_ret (pe_callTy call_tupL (by rfl) T.m_tuple (by decide +kernel) (pa_cons (pe_lc (own := [("left", 2), ("right", 3)]) (by rfl) sc_form_sum.nd (pi_zipB (K := K) rfl (by rfl) T.m_zip (pa_cons (pv 0) (pa_cons (pv 1) pa_nil))) (blkOk_by (N := ["one", "other", "left", "right"]) (sc := C8.fnScope (topS 20)) (own := [("left", 2), ("right", 3)]) (by decide +kernel)) (fun _ _ _ _ _ => (pg_two (K := K) (i := 2) (j := 3) rfl rfl sc_form_sum.nd rfl rfl (Or.inl rfl) (Or.inl rfl))) (fun _ _ _ _ _ => pts_nil) (fun _ _ _ _ _ => (pe_op op_add (pv 2) (pv 3)))) pa_nil)))), ?_⟩
    refine ⟨_, rfl, _, rfl, .T, .T, a, b, _, _, rfl, .inl (.inl ha), .inl (.inl hb), ?_⟩
    refine fun D hD => lcZ_map vAdd (by simp; omega) (by rw [List.length_map]; exact small5 (by omega)) (fun H' s => ⟨.inl (.inl (s _ _ ha)), .inl (.inl (s _ _ hb))⟩) (fun i x y H' R hx hy s q' => ?_) hD fun H' s hL => ?_
    · obtain ⟨x', mx, _, rfl⟩ := get_nat hx
      obtain ⟨y', my, _, rfl⟩ := get_nat hy
      exact ⟨rfl, _, rfl, _, rfl, _, _, rfl, rfl, q' _ (Same.refl _)⟩
    · rw [zip_addN] at hL
      exact ⟨D, _, rfl, hL, fun l H2 s2 h2 => q l H2 (s.trans s2) h2⟩
def Bf (f : F) : Prop := ∀ n ∈ f, n < 2 ^ 900
def sp_form_times : Sp := fun vs H Q _ => ∃ (k : Nat) (a : Addr) (f : F), vs = [.int k, .ref a] ∧ FT H a f ∧ f.length ≤ 4 ∧ k < 2 ^ 900 ∧ Bf f ∧ ∀ p H', Same H H' → FT H' p (timesF k f) → Q (.ref p) H'
theorem c_form_times (T : Txt K mg C) : C8.Cal P w K mg base 1 "form_times" sp_form_times [] := by
  refine calF T.d_form_times sc_form_times (fun vs H Q E h => ?_) (fun f cdv A outer s H vs Q E hr h => ?_)
  · obtain ⟨_, _, _, rfl, _⟩ := h; rfl
  · obtain ⟨k, a, f, rfl, ha, h4, hk, bf, q⟩ := h
    refine ⟨_, (pss_one (ps_ret (pe_callTy call_tupL (by rfl) T.m_tuple (by decide +kernel) (pa_cons (pe_lc (own := [("own", 2)]) (by rfl) sc_form_times.nd (pi_tup (pv 1)) (blkOk_by (N := ["number", "form", "own"]) (sc := C8.fnScope (topS 21)) (own := [("own", 2)]) (by decide +kernel)) (fun _ _ _ _ _ => (pg_name (i := 2) sc_form_times.nd rfl (Or.inl rfl))) (fun _ _ _ _ _ => pts_nil) (fun _ _ _ _ _ => (pe_op op_mulW (pv 0) (pv 2)))) pa_nil)))), ?_⟩
    refine ⟨_, rfl, a, rfl, ⟨_, .inl (.inl ha)⟩, ?_⟩
    refine fun D hD => lcT_map (fun x => match x with | .int j => .int ((k : Int) * j) | _ => .non) ha (by rw [List.length_map]; exact small5 (by omega)) (fun i x H' R hx s q' => ?_) hD fun H' s hL => ?_
    · obtain ⟨x', mx, _, rfl⟩ := get_nat hx
      have := bf x' mx
      exact ⟨rfl, _, rfl, _, rfl, _, _, rfl, rfl, wide_mul (a := 900) (b := 900) (by omega) (by omega) (by decide) (by decide) (by decide), q' _ (Same.refl _)⟩
    · refine ⟨D, _, rfl, hL, fun l H2 s2 h2 => q l H2 (s.trans s2) ?_⟩
      unfold FT
      rw [h2, timesF, List.map_map, List.map_map]
      congr 2
end
end K41

set_option Elab.async false
set_option linter.all false
set_option maxRecDepth 100000
set_option maxHeartbeats 4000000
namespace K41
open PySem PySem.Spec PyProof.Rows L2 CK SX NM
/-! ### pieces in the heap -/
def PC (H : Hp) (a : Addr) (p : Pn) : Prop := ∃ fa, H a = some (.tup [.str (S p.1), .ref fa]) ∧ FT H fa p.2
theorem PC.mono {H H' : Hp} {a : Addr} {p : Pn} (h : PC H a p) (s : ∀ a xs, H a = some (.tup xs) → H' a = some (.tup xs)) : PC H' a p := by
  obtain ⟨fa, h1, h2⟩ := h
  exact ⟨fa, s _ _ h1, s _ _ h2⟩
inductive Pcs (H : Hp) : List V → List Pn → Prop
  | nil : Pcs H [] []
  | cons {a : Addr} {vs : List V} {p : Pn} {ps : List Pn} : PC H a p → Pcs H vs ps → Pcs H (.ref a :: vs) (p :: ps)
theorem Pcs.mono {H H' : Hp} {vs : List V} {ps : List Pn} (h : Pcs H vs ps) (s : ∀ a xs, H a = some (.tup xs) → H' a = some (.tup xs)) : Pcs H' vs ps := by
  induction h with
  | nil => exact .nil
  | cons e _ ih => exact .cons (e.mono s) ih
theorem tup_same {H H' : Hp} (s : Same H H') : ∀ a xs, H a = some (.tup xs) → H' a = some (.tup xs) := fun a xs e => s _ _ e
theorem tup_upd {H : Hp} {l : Addr} {xs ys : List V} (hl : H l = some (.lst xs)) : ∀ a zs, H a = some (.tup zs) → (upd H l (.lst ys)) a = some (.tup zs) := fun a zs e => by
  rw [upd_ne (fun z => by rw [z, hl] at e; cases e)]
  exact e
theorem tup_sameX {l : Addr} {H H' : Hp} {xs : List V} (hl : H l = some (.lst xs)) (s : SameX l H H') : ∀ a zs, H a = some (.tup zs) → H' a = some (.tup zs) := fun a zs e =>
  s _ _ (fun z => by rw [z, hl] at e; cases e) e
theorem Pcs.same {H H' : Hp} {vs : List V} {ps : List Pn} (h : Pcs H vs ps) (s : Same H H') : Pcs H' vs ps := h.mono (tup_same s)
theorem Pcs.upd {H : Hp} {vs : List V} {ps : List Pn} {l : Addr} {xs ys : List V} (h : Pcs H vs ps) (hl : H l = some (.lst xs)) : Pcs (upd H l (.lst ys)) vs ps := h.mono (tup_upd hl)
theorem Pcs.len {H : Hp} {vs : List V} {ps : List Pn} (h : Pcs H vs ps) : vs.length = ps.length := by
  induction h with
  | nil => rfl
  | cons _ _ ih => simp [ih]
theorem Pcs.app {H : Hp} {vs us : List V} {ps qs : List Pn} (h : Pcs H vs ps) (g : Pcs H us qs) : Pcs H (vs ++ us) (ps ++ qs) := by
  induction h with
  | nil => exact g
  | cons e _ ih => exact .cons e ih
theorem Pcs.get {H : Hp} {vs : List V} {ps : List Pn} (h : Pcs H vs ps) {i : Nat} {v : V} (hi : vs[i]? = some v) : ∃ a p, v = .ref a ∧ ps[i]? = some p ∧ PC H a p := by
  induction h generalizing i with
  | nil => simp at hi
  | cons e _ ih =>
    cases i with
    | zero =>
      cases hi
      exact ⟨_, _, rfl, rfl, e⟩
    | succ i => exact ih hi
theorem Pcs.init {H : Hp} {vs : List V} {ps : List Pn} (h : Pcs H vs ps) : Pcs H vs.dropLast ps.dropLast := by
  induction h with
  | nil => exact .nil
  | cons e h ih =>
    cases h with
    | nil => exact .nil
    | cons e2 h2 => exact .cons e ih
theorem Pcs.one {H : Hp} {a : Addr} {p : Pn} (e : PC H a p) : Pcs H [.ref a] [p] := .cons e .nil
def PL (H : Hp) (l : Addr) (ps : List Pn) : Prop := ∃ vs, H l = some (.lst vs) ∧ Pcs H vs ps
theorem PL.same {H H' : Hp} {l : Addr} {ps : List Pn} (h : PL H l ps) (s : Same H H') : PL H' l ps := by
  obtain ⟨vs, e, p⟩ := h
  exact ⟨vs, s _ _ e, p.same s⟩
theorem last_at {vs : List V} {v : V} (h : vs[vs.length - 1]? = some v) : atI vs (-1) = some v := by
  have := (List.getElem?_eq_some_iff.mp h).1
  unfold atI ixN
  rw [if_neg (by omega), if_pos (by omega)]
  show vs[((-1 : Int) + vs.length).toNat]? = _
  rw [show ((-1 : Int) + vs.length).toNat = vs.length - 1 by omega]
  exact h
theorem head_get {f : F} {m : Nat} (h : f.length = m + 1) : (f.map fun n : Nat => V.int (n : Nat))[0]? = some (.int ((f.headD 0 : Nat) : Int)) := by
  cases f with
  | nil => simp at h
  | cons a f => rfl
theorem nat_dec (a b : Nat) : decide (V.int (a : Nat) = V.int (b : Nat)) = decide (a = b) := by
  by_cases h : a = b
  · rw [h, decide_eq_true rfl, decide_eq_true rfl]
  · rw [decide_eq_false h, decide_eq_false (fun z => h (by have := V.int.inj z; omega))]
theorem not_empty {α : Type} {l : List α} {q : α} (h : l.getLast? = some q) : (!l.isEmpty) = true := by
  cases l with
  | nil => cases h
  | cons _ _ => rfl
section
variable {P : Program} {w : World} {K : PySem.W.Frag} {mg : Str → Option Value} {base : Heap} {C : Addr}
def sp_open : Sp := fun vs H Q _ => ∃ (a : Addr) (f : F), vs = [.ref a] ∧ FT H a f ∧ ∀ H', Same H H' → Q (.bl (isOpen f)) H'
theorem c_is_open_form (T : Txt K mg C) : C8.Cal P w K mg base 1 "is_open_form" sp_open [] := by
  refine calF T.d_is_open_form sc_is_open_form (fun vs H Q E h => ?_) (fun f cdv A outer s H vs Q E hr h => ?_)
  · obtain ⟨_, _, rfl, _⟩ := h; rfl
  · obtain ⟨a, f, rfl, ha, q⟩ := h
    refine ⟨_, (pss_one (ps_ret (pe_callB (cr_anyN rfl) (by rfl) T.m_any (by decide +kernel) (pa_cons (pe_slice sl_drop (pv 0) (po_some pe_int) po_none) pa_nil)))), ?_⟩
    refine ⟨_, rfl, 1, rfl, a, _, 1, rfl, rfl, rfl, ha, fun p1 H1 s1 h1 => ⟨p1, f.tail, rfl, ?_, q H1 s1⟩⟩
    rw [h1, ← List.map_drop]
    cases f <;> rfl
def sp_is_power : Sp := fun vs H Q _ => ∃ (a : Addr) (p : Pn) (m : Nat), vs = [.ref a] ∧ PC H a p ∧ p.2.length = m + 1 ∧ Q (.bl (isPow p)) H
theorem c_is_power (T : Txt K mg C) : C8.Cal P w K mg base 1 "is_power" sp_is_power [] := by
  refine calF T.d_is_power sc_is_power (fun vs H Q E h => ?_) (fun f cdv A outer s H vs Q E hr h => ?_)
  · obtain ⟨_, _, _, rfl, _⟩ := h; rfl
  · obtain ⟨a, p, m, rfl, ⟨fa, h1, h2⟩, hl, q⟩ := h
    refine ⟨_, (pss_one (ps_ret (pe_cmpR op_eq (pe_ix ix_tup (pe_ix ix_tup (pv 0) pe_int (fun _ _ => rfl)) pe_int (fun _ _ => rfl)) pe_int (nomark _)))), ?_⟩
    refine ⟨_, rfl, a, _, 1, _, rfl, rfl, .inl (.inl h1), atI_nat (j := 1) rfl, fa, _, 0, _, rfl, rfl, .inl (.inl h2), atI_nat (j := 0) (head_get hl), rfl, ?_⟩
    have := nat_dec (p.2.headD 0) 0
    rw [show V.int ((0 : Nat) : Int) = V.int 0 from rfl] at this
    rw [this]
    exact q
def sp_fixed : Sp := fun vs H Q _ => ∃ (z : List Nat) (m : Nat), vs = [.str (S z), .int m] ∧ m ≤ 3 ∧ ∀ p H', Same H H' → PC H' p (fixP z m) → Q (.ref p) H'
theorem c_fixed_piece (T : Txt K mg C) : C8.Cal P w K mg base 1 "fixed_piece" sp_fixed [] := by
  refine calF T.d_fixed_piece sc_fixed_piece (fun vs H Q E h => ?_) (fun f cdv A outer s H vs Q E hr h => ?_)
  · obtain ⟨_, _, rfl, _⟩ := h; rfl
  · obtain ⟨z, m, rfl, hm, q⟩ := h
    refine ⟨_, (pss_one (ps_ret (pe_tup (pa_cons (pv 0) (pa_cons (pe_op op_catS (pe_tup (pa_cons pe_int pa_nil)) (pe_op op_repOne (pe_tup (pa_cons pe_int pa_nil)) (pv 1))) pa_nil))))), ?_⟩
    refine ⟨_, rfl, by show 1 ≤ sizeLine; decide, fun t1 n1 => ⟨by decide, fun t2 n2 => ⟨_, rfl, t2, _, _, rfl, rfl, upd_same, by omega, by omega, fun p H' s hp => ?_⟩⟩⟩
    have e1 : H' t1 = some (.tup [.int 1]) := s _ _ (by rw [upd_ne (ne_of_none upd_same n2)]; exact upd_same)
    refine ⟨t1, p, _, _, rfl, rfl, e1, hp, by simp; omega, fun p2 H2 s2 h2 => ⟨by show 2 ≤ sizeLine; decide, fun t ht => ?_⟩⟩
    refine q t _ ((((sameNew n1).trans (sameNew n2)).trans (s.trans s2)).trans (sameNew ht)) ⟨p2, upd_same, ?_⟩
    refine sameNew ht _ _ ?_
    rw [h2]
    unfold fixP one1
    simp
theorem tru_word {K : PySem.W.Frag} {H : Hp} {z : List Nat} (h : z.length ≤ 1000000) : TruV K (.str (S z)) H (decide (z ≠ [])) := by
  refine ⟨len_line h, ?_⟩
  rw [S_len]
  by_cases e : z = []
  · subst e; rfl
  · have := List.length_pos_iff.mpr e
    rw [decide_eq_true e]
    symm
    rw [bne_iff_ne]
    omega
theorem SameX.updL {l : Addr} {H H1 : Hp} {o : HO} (s : SameX l H H1) : SameX l H (upd H1 l o) := fun b x hb e => by
  rw [upd_ne hb]
  exact s b x hb e
/-- behind the first test -/
theorem fixed_tail (T : Txt K mg C) (f : Addr) (cdv : Value) (A : Around) (outer : List Env) (s : Shared) (H0 : Hp) (E : XK) (hr : Room 1 (A.deeper (envOfC "put_fixed" (C8.fnScope (topS 40)) s.heap.objs.size f cdv))) :
    ∃ u, PSs (cxOf C8.CX0 P w K mg base ["ready", "word", "many"] "put_fixed" (C8.fnScope (topS 40)) f cdv A outer s H0 E).nox ((C8.fnBody (topS 40)).drop 1) u ∧
      ∀ (D : Ends) (H : Hp) (l : Addr) (us : List V) (X : List Pn) (z : List Nat) (m : Nat), H l = some (.lst us) → Pcs H us X → m ≤ 3 → X.length < 1000000 → z.length ≤ 200000 →
        (∀ σ H', SameX l H H' → PL H' l (if z = [] then X else X ++ [fixP z m]) → D.nx σ H') → u D [some (.ref l), some (.str (S z)), some (.int m)] H := by
  refine ⟨_, (pss_one (ps_if (pt_truth (pv 1) (by intro _; rfl))
    (pss_one (ps_expr (pe_bm PySem.F.plainAttrs_list PySem.F.slot_list_append PySem.F.type_list_append mt_append (pv 0) (pa_cons (C8.pe_c (c_fixed_piece T) hr (by decide) (by rfl) (pa_cons (pv 1) (pa_cons (pv 2) pa_nil))) pa_nil))))
    pss_nil)), ?_⟩
  intro D H l us X z m hl hX hm lX lz q
  refine ⟨_, rfl, _, tru_word (by omega), ite2 (fun e => ?_) (fun e => ?_)⟩
  · have e' := of_decide_eq_true e
    refine ⟨_, rfl, .inl ⟨rfl, _, .inl (.inl hl)⟩, _, rfl, _, rfl, z, m, rfl, hm, fun t H2 s2 pc => ?_⟩
    have h2 := s2 _ _ hl
    refine ⟨l, _, _, rfl, rfl, h2, by have := hX.len; rw [sizeLine_eq]; omega, q _ _ (SameX.updL (.of s2)) ?_⟩
    rw [if_neg e']
    exact ⟨_, upd_same, ((hX.same s2).upd h2).app (.one (pc.mono (tup_upd h2)))⟩
  · have e' : z = [] := Classical.byContradiction fun y => e (decide_eq_true y)
    exact q _ _ (.refl _ _) (by rw [if_pos e']; exact ⟨us, hl, hX⟩)
/-- the list at l grows, all else stays -/
def sp_put_fixed : Sp := fun vs H Q _ => ∃ (l : Addr) (acc : List Pn) (z : List Nat) (m : Nat), vs = [.ref l, .str (S z), .int m] ∧ PL H l acc ∧ LenF m acc ∧ m ≤ 3 ∧ acc.length < 1000000 ∧ z.length ≤ 100000 ∧ (∀ p ∈ acc, p.1.length ≤ 100000) ∧
  ∀ H', SameX l H H' → PL H' l (joinF acc z m) → Q .non H'
theorem c_put_fixed (T : Txt K mg C) : C8.Cal P w K mg base 2 "put_fixed" sp_put_fixed [] := by
  refine calF T.d_put_fixed sc_put_fixed (fun vs H Q E h => ?_) (fun f cdv A outer s H vs Q E hr h => ?_)
  · obtain ⟨_, _, _, _, rfl, _⟩ := h; rfl
  · obtain ⟨l, acc, z, m, rfl, ⟨vs, hl, hp⟩, lf, hm, hacc, hz, hw, q⟩ := h
    have lv := hp.len
    obtain ⟨u1, hu1, tail⟩ := fixed_tail (P := P) (w := w) (base := base) T f cdv A outer s H E hr
    refine ⟨_, (pss_cons (ps_if (PW.pt (pw_and (pt_truth (pv 0) (by intro _; rfl)) (pw_and1 (pt_not (pt_val (C8.pe_c (c_is_power T) hr (by decide) (by rfl) (pa_cons (pe_ix ix_list (pv 0) (pe_un un_neg pe_int) (fun _ _ => rfl)) pa_nil)))))))
    (pss_one (ps_set (i := 1) sc_put_fixed.nd rfl (Or.inl rfl) (pe_op op_add_str (pe_ix ix_tup (pe_bm0 PySem.F.plainAttrs_list PySem.F.slot_list_pop PySem.F.type_list_pop mt_pop (pv 0)) pe_int (fun _ _ => rfl)) (pv 1))))
    pss_nil)
    hu1), ?_⟩
    cases hlast : vs.getLast? with
    | none =>
      have ve : vs = [] := List.getLast?_eq_none_iff.mp hlast
      have ae : acc = [] := List.length_eq_zero_iff.mp (by rw [← lv, ve]; rfl)
      have ep : joinF acc z m = if z = [] then acc else acc ++ [fixP z m] := by rw [ae]; rfl
      rw [ep] at q
      refine ⟨_, rfl, false, .inl ⟨_, .inl (.inl hl), by rw [ve]; rfl⟩, iteF (iteF ?_)⟩
      exact tail _ H l vs acc z m hl hp hm hacc (by omega) fun _ H' s' p' => q H' s' p'
    | some v =>
      have hv : vs[vs.length - 1]? = some v := by rw [← List.getLast?_eq_getElem?]; exact hlast
      obtain ⟨b, p, rfl, hpi, pc⟩ := hp.get hv
      have ha : acc.getLast? = some p := by rw [List.getLast?_eq_getElem?, ← lv]; exact hpi
      have mem := List.mem_of_getLast? ha
      refine ⟨_, rfl, true, .inl ⟨_, .inl (.inl hl), (not_empty hlast).symm⟩, iteT ?_⟩
      refine ⟨_, rfl, 1, rfl, l, _, -1, _, rfl, rfl, .inl (.inl hl), last_at hv, b, p, m, rfl, pc, lf p mem, _, rfl, ?_⟩
      cases ep : isPow p with
      | true =>
        have e : joinF acc z m = if z = [] then acc else acc ++ [fixP z m] := by
          unfold joinF
          rw [ha]
          simp [ep]
        rw [e] at q
        refine iteF ?_
        exact tail _ H l vs acc z m hl hp hm hacc (by omega) fun _ H' s' p' => q H' s' p'
      | false =>
        have e : joinF acc z m = if p.1 ++ z = [] then acc.dropLast else acc.dropLast ++ [fixP (p.1 ++ z) m] := by
          unfold joinF
          rw [ha]
          simp [ep]
        rw [e] at q
        obtain ⟨fa, h1, h2⟩ := id pc
        have lp := hw p mem
        refine iteT ⟨_, rfl, .inl ⟨rfl, _, .inl (.inl hl)⟩, l, _, _, rfl, rfl, hl, hv, b, _, 0, _, rfl, rfl, .inl (.inl (tup_upd hl _ _ h1)), atI_nat (j := 0) rfl, _, rfl, _, _, rfl, rfl, ?_, ?_⟩
        · rw [S_len, S_len, sizeLine_eq]
          omega
        · rw [S_cat]
          exact tail _ _ l vs.dropLast acc.dropLast (p.1 ++ z) m upd_same (hp.init.upd hl) hm (by rw [List.length_dropLast]; omega) (by rw [List.length_append]; omega) fun _ H' s' p' => q H' ((SameX.updL (.refl _ _)).trans s') p'
end
end K41

set_option Elab.async false
set_option linter.all false
set_option maxRecDepth 100000
set_option maxHeartbeats 4000000
namespace K41
open PySem PySem.Spec PyProof.Rows L2 CK SX NM
def Ws (B : Nat) (ps : List Pn) : Prop := ∀ p ∈ ps, p.1.length ≤ B
theorem mem_joinF {acc : List Pn} {z : WM.W} {m : Nat} {p : Pn} (h : p ∈ joinF acc z m) : p ∈ acc ∨ p = fixP z m ∨ ∃ q ∈ acc, p = fixP (q.1 ++ z) m := by
  unfold joinF at h
  split at h
  · next q hq =>
    have mq := List.mem_of_getLast? hq
    split at h
    · split at h
      · exact .inl h
      · rcases List.mem_append.mp h with x | x
        · exact .inl x
        · exact .inr (.inl (List.mem_singleton.mp x))
    · split at h
      · exact .inl (mem_dropLast h)
      · rcases List.mem_append.mp h with x | x
        · exact .inl (mem_dropLast x)
        · exact .inr (.inr ⟨q, mq, List.mem_singleton.mp x⟩)
  · split at h
    · exact .inl h
    · rcases List.mem_append.mp h with x | x
      · exact .inl x
      · exact .inr (.inl (List.mem_singleton.mp x))
theorem len_one1 (m : Nat) : (one1 m).length = m + 1 := by simp [one1]
theorem lenF_joinF {acc : List Pn} {z : WM.W} {m : Nat} (h : LenF m acc) : LenF m (joinF acc z m) := fun p hp => by
  rcases mem_joinF hp with x | x | ⟨q, _, x⟩
  · exact h p x
  · rw [x]; exact len_one1 m
  · rw [x]; exact len_one1 m
theorem ws_joinF {acc : List Pn} {z : WM.W} {m B : Nat} (h : Ws B acc) (hz : z.length ≤ B) : Ws (2 * B) (joinF acc z m) := fun p hp => by
  rcases mem_joinF hp with x | x | ⟨q, hq, x⟩
  · have := h p x
    omega
  · rw [x]
    show z.length ≤ 2 * B
    omega
  · rw [x]
    show (q.1 ++ z).length ≤ 2 * B
    have := h q hq
    rw [List.length_append]
    omega
theorem len_joinF (acc : List Pn) (z : WM.W) (m : Nat) : (joinF acc z m).length ≤ acc.length + 1 := by
  unfold joinF
  split
  · split
    · split <;> simp
    · split <;> simp
      omega
  · split <;> simp
section
variable {P : Program} {w : World} {K : PySem.W.Frag} {mg : Str → Option Value} {base : Heap} {C : Addr}
theorem power_tail2 (T : Txt K mg C) (f0 : Addr) (cdv : Value) (A : Around) (outer : List Env) (s : Shared) (H0 : Hp) (E : XK) (hr : Room 2 (A.deeper (envOfC "put_power" (C8.fnScope (topS 41)) s.heap.objs.size f0 cdv))) :
    ∃ u, PSs (cxOf C8.CX0 P w K mg base ["ready", "word", "form", "many", "behind", "ahead", "moved"] "put_power" (C8.fnScope (topS 41)) f0 cdv A outer s H0 E).nox ((C8.fnBody (topS 41)).drop 4) u ∧
      ∀ (D : Ends) (H : Hp) (l fa : Addr) (us : List V) (X : List Pn) (z b : List Nat) (f : F) (m : Nat) (y5 y6 : Option V), H l = some (.lst us) → Pcs H us X → FT H fa f → f.length = m + 1 → LenF m X → m ≤ 3 → X.length < 900000 → b.length ≤ 100000 → z.length ≤ 100000 → Ws 100000 X →
        (∀ σ H', SameX l H H' → PL H' l (joinF (X ++ [(z, f)]) b m) → D.nx σ H') → u D [some (.ref l), some (.str (S z)), some (.ref fa), some (.int m), some (.str (S b)), y5, y6] H := by
  refine ⟨_, (pss_cons (ps_expr (pe_bm PySem.F.plainAttrs_list PySem.F.slot_list_append PySem.F.type_list_append mt_append (pv 0) (pa_cons (pe_tup (pa_cons (pv 1) (pa_cons (pv 2) pa_nil))) pa_nil)))
    (pss_one (ps_expr (C8.pe_c (c_put_fixed T) hr (by decide) (by rfl) (pa_cons (pv 0) (pa_cons (pv 4) (pa_cons (pv 3) pa_nil))))))), ?_⟩
  intro D H l fa us X z b f m y5 y6 hl hX hf lf lX hm hn lb lz ws q
  have lu := hX.len
  refine ⟨_, rfl, .inl ⟨rfl, _, .inl (.inl hl)⟩, _, rfl, _, rfl, by show 2 ≤ sizeLine; decide, fun t ht => ?_⟩
  have st := sameNew (o := .tup [.str (S z), .ref fa]) ht
  have h1 := st _ _ hl
  refine ⟨l, _, _, rfl, rfl, h1, by rw [sizeLine_eq]; omega, ?_⟩
  have PL1 : PL (upd (upd H t (.tup [.str (S z), .ref fa])) l (.lst (us ++ [.ref t]))) l (X ++ [(z, f)]) := by
    refine ⟨_, upd_same, ((hX.same st).upd h1).app (.one ⟨fa, tup_upd h1 _ _ upd_same, tup_upd h1 _ _ (st _ _ hf)⟩)⟩
  refine ⟨_, rfl, _, rfl, _, rfl, l, X ++ [(z, f)], b, m, rfl, PL1, fun p hp => ?_, hm, by simp; omega, by omega, fun p hp => ?_, fun H' s' p' => q _ H' ((SameX.updL (.of st)).trans s') p'⟩
  · rcases List.mem_append.mp hp with x | x
    · exact lX p x
    · rw [List.mem_singleton.mp x]
      exact lf
  · rcases List.mem_append.mp hp with x | x
    · exact ws p x
    · rw [List.mem_singleton.mp x]
      exact lz
theorem power_tail1 (T : Txt K mg C) (f0 : Addr) (cdv : Value) (A : Around) (outer : List Env) (s : Shared) (H0 : Hp) (E : XK) (hr : Room 2 (A.deeper (envOfC "put_power" (C8.fnScope (topS 41)) s.heap.objs.size f0 cdv))) :
    ∃ u, PSs (cxOf C8.CX0 P w K mg base ["ready", "word", "form", "many", "behind", "ahead", "moved"] "put_power" (C8.fnScope (topS 41)) f0 cdv A outer s H0 E).nox ((C8.fnBody (topS 41)).drop 3) u ∧
      ∀ (D : Ends) (σ : L2.St) (H : Hp) (l fa : Addr) (us : List V) (X : List Pn) (z b : List Nat) (f : F) (m : Nat) (y5 y6 : Option V), σ = [some (.ref l), some (.str (S z)), some (.ref fa), some (.int m), some (.str (S b)), y5, y6] → H l = some (.lst us) → Pcs H us X → FT H fa f → f.length = m + 1 → LenF m X → m ≤ 3 → X.length < 900000 → b.length ≤ 100000 → z.length ≤ 100000 → Ws 100000 X →
        (∀ σ H', SameX l H H' → PL H' l (joinF (pushP X z f) b m) → D.nx σ H') → u D σ H := by
  obtain ⟨u2, hu2, tail⟩ := power_tail2 (P := P) (w := w) (base := base) T f0 cdv A outer s H0 E hr
  refine ⟨_, (pss_cons (ps_if (PW.pt (pw_and (pt_truth (pv 0) (by intro _; rfl)) (pw_and (pt_val (C8.pe_c (c_is_power T) hr (by decide) (by rfl) (pa_cons (pe_ix ix_list (pv 0) (pe_un un_neg pe_int) (fun _ _ => rfl)) pa_nil))) (pw_and1 (pt_cmpR op_eq (pe_ix ix_tup (pe_ix ix_list (pv 0) (pe_un un_neg pe_int) (fun _ _ => rfl)) pe_int (fun _ _ => rfl)) (pv 1) (nomark _))))))
    (pss_one (ps_set (i := 2) sc_put_power.nd rfl (Or.inl rfl) (C8.pe_c (c_form_sum T) hr (by decide) (by rfl) (pa_cons (pe_ix ix_tup (pe_bm0 PySem.F.plainAttrs_list PySem.F.slot_list_pop PySem.F.type_list_pop mt_pop (pv 0)) pe_int (fun _ _ => rfl)) (pa_cons (pv 2) pa_nil)))))
    pss_nil)
    hu2), ?_⟩
  intro D σ H l fa us X z b f m y5 y6 eσ hl hX hf lf lX hm hn lb lz ws q
  subst eσ
  have lu := hX.len
  cases hlast : us.getLast? with
  | none =>
    have ve : us = [] := List.getLast?_eq_none_iff.mp hlast
    have ae : X = [] := List.length_eq_zero_iff.mp (by rw [← lu, ve]; rfl)
    have ep : pushP X z f = X ++ [(z, f)] := by rw [ae]; rfl
    rw [ep] at q
    refine ⟨_, rfl, false, .inl ⟨_, .inl (.inl hl), by rw [ve]; rfl⟩, iteF (iteF ?_)⟩
    exact tail _ H l fa us X z b f m y5 y6 hl hX hf lf lX hm hn lb lz ws q
  | some v =>
    have hv : us[us.length - 1]? = some v := by rw [← List.getLast?_eq_getElem?]; exact hlast
    obtain ⟨c, p, rfl, hpi, pc⟩ := hX.get hv
    have ha : X.getLast? = some p := by rw [List.getLast?_eq_getElem?, ← lu]; exact hpi
    have mem := List.mem_of_getLast? ha
    have other : ¬ (isPow p = true ∧ p.1 = z) → u2 D [some (.ref l), some (.str (S z)), some (.ref fa), some (.int m), some (.str (S b)), y5, y6] H := fun no => by
      have ep : pushP X z f = X ++ [(z, f)] := by
        unfold pushP
        rw [ha]
        simp [no]
      rw [ep] at q
      exact tail _ H l fa us X z b f m y5 y6 hl hX hf lf lX hm hn lb lz ws q
    refine ⟨_, rfl, true, .inl ⟨_, .inl (.inl hl), (not_empty hlast).symm⟩, iteT ?_⟩
    refine ⟨_, rfl, 1, rfl, l, _, -1, _, rfl, rfl, .inl (.inl hl), last_at hv, c, p, m, rfl, pc, lX p mem, _, rfl, ?_⟩
    cases ep : isPow p with
    | false => exact iteF (iteF (other fun z => by rw [ep] at z; cases z.1))
    | true =>
      obtain ⟨fp, h1, h2⟩ := id pc
      refine iteT ⟨_, rfl, 1, rfl, l, _, -1, _, rfl, rfl, .inl (.inl hl), last_at hv, c, _, 0, _, rfl, rfl, .inl (.inl h1), atI_nat (j := 0) rfl, _, rfl, rfl, _, rfl, ite2 (fun e => ?_) (fun e => ?_)⟩
      · have e1 : p.1 = z := S_inj (V.str.inj (of_decide_eq_true e))
        have es : pushP X z f = X.dropLast ++ [(z, addF p.2 f)] := by
          unfold pushP
          rw [ha]
          simp [ep, e1]
        rw [es] at q
        have lp := lX p mem
        have h2' : FT (upd H l (.lst us.dropLast)) fp p.2 := tup_upd hl _ _ h2
        refine ⟨_, rfl, .inl ⟨rfl, _, .inl (.inl hl)⟩, l, _, _, rfl, rfl, hl, hv, c, _, 1, _, rfl, rfl, .inl (.inl (tup_upd hl _ _ h1)), atI_nat (j := 1) rfl, _, rfl, fp, fa, p.2, f, rfl, h2', tup_upd hl _ _ hf, by omega, by omega, fun fs H2 s2 h3 => ?_⟩
        have hl2 : H2 l = some (.lst us.dropLast) := s2 _ _ upd_same
        refine tail _ H2 l fs us.dropLast X.dropLast z b (addF p.2 f) m y5 y6 hl2 ((hX.init.upd hl).same s2) h3 (by rw [len_add (by omega)]; exact lf) (fun r hr' => lX r (mem_dropLast hr')) hm (by rw [List.length_dropLast]; omega) lb lz (fun r hr' => ws r (mem_dropLast hr')) fun σ H' s' p' => q σ H' (((SameX.updL (.refl _ _)).trans (.of s2)).trans s') p'
      · exact other fun y => e (decide_eq_true (by rw [y.2]))
def sp_put_power : Sp := fun vs H Q _ => ∃ (l fa : Addr) (acc : List Pn) (z : List Nat) (f : F) (m : Nat), vs = [.ref l, .str (S z), .ref fa] ∧ PL H l acc ∧ FT H fa f ∧ f.length = m + 1 ∧ LenF m acc ∧ m ≤ 3 ∧ acc.length < 100000 ∧ z ≠ [] ∧ z.length ≤ 10000 ∧ Ws 10000 acc ∧
  ∀ H', SameX l H H' → PL H' l (putP acc z f) → Q .non H'
theorem c_put_power (T : Txt K mg C) : C8.Cal P w K mg base 3 "put_power" sp_put_power [] := by
  refine calF T.d_put_power sc_put_power (fun vs H Q E h => ?_) (fun f0 cdv A outer s H vs Q E hr h => ?_)
  · obtain ⟨_, _, _, _, _, _, rfl, _⟩ := h; rfl
  · obtain ⟨l, fa, acc, z, f, m, rfl, ⟨vs, hl, hp⟩, hf, lf, lA, hm, hacc, zne, hz, ws, q⟩ := h
    have lv := hp.len
    have em : f.length - 1 = m := by omega
    obtain ⟨u1, hu1, tail⟩ := power_tail1 (P := P) (w := w) (base := base) T f0 cdv A outer s H E hr
    refine ⟨_, (pss_cons (ps_set (i := 3) sc_put_power.nd rfl (Or.inl rfl) (pe_op op_sub (pe_callB call_len_seq (by rfl) T.m_len (by decide +kernel) (pa_cons (pv 2) pa_nil)) pe_int))
    (pss_cons (ps_set (i := 4) sc_put_power.nd rfl (Or.inl rfl) pe_str)
    (pss_cons (ps_if (PW.pt (pw_and (pt_truth (pv 0) (by intro _; rfl)) (pw_and1 (pt_not (pt_val (C8.pe_c (c_is_power T) hr (by decide) (by rfl) (pa_cons (pe_ix ix_list (pv 0) (pe_un un_neg pe_int) (fun _ _ => rfl)) pa_nil)))))))
    (pss_cons (ps_set (i := 5) sc_put_power.nd rfl (Or.inl rfl) (pe_ix ix_tup (pe_bm0 PySem.F.plainAttrs_list PySem.F.slot_list_pop PySem.F.type_list_pop mt_pop (pv 0)) pe_int (fun _ _ => rfl)))
    (pss_cons (ps_set (i := 6) sc_put_power.nd rfl (Or.inl rfl) (C8.pe_c (c_alike_behind T) hr (by decide) (by rfl) (pa_cons (pv 5) (pa_cons (C8.pe_c (c_stretch T) hr (by decide) (by rfl) (pa_cons (pv 1) (pa_cons (pe_un un_neg (pe_callB call_len_str (by rfl) T.m_len (by decide +kernel) (pa_cons (pv 5) pa_nil))) (pa_cons (pe_callB call_len_str (by rfl) T.m_len (by decide +kernel) (pa_cons (pv 5) pa_nil)) pa_nil)))) pa_nil))))
    (pss_cons (ps_set (i := 4) sc_put_power.nd rfl (Or.inl rfl) (pe_slice C8.sl_txt (pv 5) (po_some (pe_op op_sub (pe_callB call_len_str (by rfl) T.m_len (by decide +kernel) (pa_cons (pv 5) pa_nil)) (pv 6))) po_none))
    (pss_cons (ps_set (i := 1) sc_put_power.nd rfl (Or.inl rfl) (C8.pe_c (c_turned_word T) hr (by decide) (by rfl) (pa_cons (pv 1) (pa_cons (pe_un un_neg (pv 6)) pa_nil))))
    (pss_one (ps_expr (C8.pe_c (c_put_fixed T) hr (by decide) (by rfl) (pa_cons (pv 0) (pa_cons (pe_slice C8.sl_txt (pv 5) po_none (po_some (pe_op op_sub (pe_callB call_len_str (by rfl) T.m_len (by decide +kernel) (pa_cons (pv 5) pa_nil)) (pv 6)))) (pa_cons (pv 3) pa_nil))))))))))
    pss_nil)
    hu1))), ?_⟩
    refine ⟨_, rfl, fa, _, rfl, .inr (.inl (.inl hf)), _, _, rfl, rfl, ?_⟩
    have lm : (((f.map fun n : Nat => V.int (n : Nat)).length : Nat) : Int) - 1 = (m : Int) := by rw [List.length_map, lf]; omega
    have eS : (V.str "") = V.str (S []) := by decide +kernel
    have eσ : [some (V.ref l), some (V.str (S z)), some (V.ref fa), some (V.int ((((f.map fun n : Nat => V.int (n : Nat)).length : Nat) : Int) - 1)), some (V.str ""), none, none] = [some (V.ref l), some (V.str (S z)), some (V.ref fa), some (V.int (m : Nat)), some (V.str (S [])), none, none] := by rw [lm, eS]
    have simple : (∀ q, acc.getLast? = some q → isPow q = true) → u1 { nx := fun _ H' => Q .non H', rt := Q } [some (V.ref l), some (V.str (S z)), some (V.ref fa), some (V.int ((((f.map fun n : Nat => V.int (n : Nat)).length : Nat) : Int) - 1)), some (V.str ""), none, none] H := fun hp' => by
      have e : putP acc z f = joinF (pushP acc z f) [] m := by
        unfold putP
        rw [em]
        split
        · next q hq => rw [if_pos (hp' q hq)]
        · rfl
      rw [e] at q
      exact tail _ _ H l fa vs acc z [] f m none none eσ hl hp hf lf lA hm (by omega) (by simp) (by omega) (fun p hp => by have := ws p hp; omega) fun _ H' s' p' => q H' s' p'
    cases hlast : vs.getLast? with
    | none =>
      have ve : vs = [] := List.getLast?_eq_none_iff.mp hlast
      have ae : acc = [] := List.length_eq_zero_iff.mp (by rw [← lv, ve]; rfl)
      refine ⟨_, rfl, false, .inl ⟨_, .inl (.inl hl), by rw [ve]; rfl⟩, iteF (iteF ?_)⟩
      exact simple fun q hq => by rw [ae] at hq; cases hq
    | some v =>
      have hv : vs[vs.length - 1]? = some v := by rw [← List.getLast?_eq_getElem?]; exact hlast
      obtain ⟨b, p, rfl, hpi, pc⟩ := hp.get hv
      have ha : acc.getLast? = some p := by rw [List.getLast?_eq_getElem?, ← lv]; exact hpi
      have mem := List.mem_of_getLast? ha
      refine ⟨_, rfl, true, .inl ⟨_, .inl (.inl hl), (not_empty hlast).symm⟩, iteT ?_⟩
      refine ⟨_, rfl, 1, rfl, l, _, -1, _, rfl, rfl, .inl (.inl hl), last_at hv, b, p, m, rfl, pc, lA p mem, _, rfl, ?_⟩
      cases ep : isPow p with
      | true => exact iteF (simple fun q hq => by rw [ha] at hq; cases hq; exact ep)
      | false =>
        have e : putP acc z f = joinF (pushP (joinF acc.dropLast (p.1.take (p.1.length - movedE p.1 z)) m) (rotR z (movedE p.1 z)) f) (p.1.drop (p.1.length - movedE p.1 z)) m := by
          unfold putP
          rw [ha, em]
          simp [ep]
        rw [e] at q
        obtain ⟨fp, h1, h2⟩ := id pc
        have lp := ws p mem
        have mle := movedE_le p.1 z
        have hl1 : (upd H l (.lst vs.dropLast)) l = some (.lst vs.dropLast) := upd_same
        have hp1 := hp.init.upd (ys := vs.dropLast) hl
        have hf1 : FT (upd H l (.lst vs.dropLast)) fa f := tup_upd hl _ _ hf
        refine iteT ⟨_, rfl, .inl ⟨rfl, _, .inl (.inl hl)⟩, l, _, _, rfl, rfl, hl, hv, b, _, 0, _, rfl, rfl, .inl (.inl (tup_upd hl _ _ h1)), atI_nat (j := 0) rfl, ?_⟩
        generalize hmv : movedE p.1 z = mv at mle q
        have emv : WM.lcp p.1.reverse (tailE z p.1.length).reverse = mv := hmv
        refine ⟨_, rfl, _, rfl, _, rfl, S p.1, rfl, len_line (by omega), _, rfl, _, rfl, S p.1, rfl, len_line (by omega), z, p.1.length, by rw [S_len]; rfl, zne, by omega, by omega, p.1, tailE z p.1.length, rfl, by omega, by rw [tailE_len zne]; omega, ?_⟩
        rw [emv]
        refine ⟨_, rfl, _, rfl, S p.1, rfl, len_line (by omega), _, rfl, _, _, rfl, rfl, ((p.1.length - mv : Nat) : Int), congrArg V.int (by rw [S_len]; omega), S p.1, rfl, len_line (by omega), ?_⟩
        rw [SX.slice_from (by omega), Int.toNat_natCast]
        refine ⟨_, rfl, _, rfl, _, rfl, z, -(mv : Int), rfl, by omega, zne, ?_⟩
        rw [rotZ_neg zne]
        refine ⟨_, rfl, _, rfl, _, rfl, S p.1, rfl, len_line (by omega), _, rfl, _, _, rfl, rfl, ((p.1.length - mv : Nat) : Int), congrArg V.int (by rw [S_len]; omega), S p.1, rfl, len_line (by omega), ?_⟩
        rw [SX.slice_to (by omega), Int.toNat_natCast]
        refine ⟨_, rfl, l, acc.dropLast, p.1.take (p.1.length - mv), m, by
          show [V.ref l, V.str _, V.int ((((f.map fun n : Nat => V.int (n : Nat)).length : Nat) : Int) - 1)] = _
          rw [lm], ⟨_, hl1, hp1⟩, fun r hr' => lA r (mem_dropLast hr'), hm, by rw [List.length_dropLast]; omega, by rw [List.length_take]; omega, fun r hr' => by have := ws r (mem_dropLast hr'); omega, fun H2 s2 p2 => ?_⟩
        obtain ⟨us, hus, pus⟩ := p2
        have wsJ : Ws 20000 (joinF acc.dropLast (p.1.take (p.1.length - mv)) m) := ws_joinF (B := 10000) (fun r hr' => ws r (mem_dropLast hr')) (by rw [List.length_take]; omega)
        have lJ := len_joinF acc.dropLast (p.1.take (p.1.length - mv)) m
        rw [List.length_dropLast] at lJ
        refine tail _ _ H2 l fa us _ (rotR z mv) (p.1.drop (p.1.length - mv)) f m (some (.str (S p.1))) (some (.int (mv : Nat))) (by
          show [some (V.ref l), some (V.str (S (rotR z mv))), some (V.ref fa), some (V.int ((((f.map fun n : Nat => V.int (n : Nat)).length : Nat) : Int) - 1)), some (V.str (S (p.1.drop (p.1.length - mv)))), some (V.str (S p.1)), some (V.int (mv : Nat))] = _
          rw [lm]) hus pus (tup_sameX hl1 s2 _ _ hf1) lf (lenF_joinF fun r hr' => lA r (mem_dropLast hr')) hm (by omega) (by rw [List.length_drop]; omega) (by rw [rotR_len]; omega) (fun r hr' => by have := wsJ r hr'; omega) fun σ H' s' p' => q H' (((SameX.updL (.refl _ _)).trans s2).trans s') p'
end
end K41

set_option Elab.async false
set_option linter.all false
set_option maxRecDepth 100000
set_option maxHeartbeats 4000000
namespace K41
open PySem PySem.Spec PyProof.Rows L2 CK SX NM
/-- what holds between two statements -/
theorem cut_seq {t u : TS} {D : Ends} {σ : L2.St} {H : Hp} (Mid : L2.St → Hp → Prop) (h1 : ∀ K : L2.St → Hp → Prop, (∀ σ' H', Mid σ' H' → K σ' H') → t { D with nx := K } σ H) (h2 : ∀ σ' H', Mid σ' H' → u D σ' H') : tSeq t u D σ H := h1 _ h2
theorem meas_cons (p : Pn) (r : List Pn) : meas (p :: r) = measP p + meas r := by simp [meas]
theorem le_meas : ∀ {l : List Pn} {p : Pn}, p ∈ l → measP p ≤ meas l
  | [], _, h => absurd h List.not_mem_nil
  | q :: r, p, h => by
    rw [meas_cons]
    rcases List.mem_cons.mp h with x | x
    · rw [x]; omega
    · have := le_meas x
      omega
theorem len_meas : ∀ {l : List Pn}, (∀ p ∈ l, 1 ≤ measP p) → l.length ≤ meas l
  | [], _ => Nat.zero_le _
  | p :: r, h => by
    have a := len_meas fun q hq => h q (List.mem_cons_of_mem _ hq)
    have b := h p List.mem_cons_self
    rw [meas_cons, List.length_cons]
    omega
theorem _root_.NM.Nm.small {m B : Nat} {l : List Pn} (h : Nm m l) (hb : meas l ≤ B) : l.length ≤ B ∧ Ws B l := by
  refine ⟨Nat.le_trans (len_meas fun p hp => ?_) hb, fun p hp => Nat.le_trans (measP_le (h.all p hp)) (Nat.le_trans (le_meas hp) hb)⟩
  exact Nat.le_trans (List.length_pos_iff.mpr (h.all p hp).ne) (measP_le (h.all p hp))
theorem nm_stepA' {m : Nat} {acc : List Pn} {p : Pn} (h : Nm m acc) (hl : p.2.length = m + 1) : Nm m (stepA acc p) ∧ meas (stepA acc p) ≤ meas acc + p.1.length := by
  refine ⟨nm_stepA h hl, ?_⟩
  unfold stepA
  split
  · next z =>
    have lt : (timesF (p.1.length / WM.rootN p.1) (0 :: p.2.tail)).length = m + 1 := by unfold timesF; simp [hl]
    have := meas_putP h (u := p.1.take (WM.rootN p.1)) lt (by simp [timesF])
    rw [List.length_take] at this
    omega
  · omega
theorem meas_take_step {ps : List Pn} {m i : Nat} {p : Pn} (h : LenF m ps) (hp : ps[i]? = some p) : meas ((ps.take i).foldl stepN []) + measP p ≤ meas ps := by
  have a := meas_fold (ps.take i) [] (Nm.nil (m := m)) fun q hq => h q (List.mem_of_mem_take hq)
  have e : meas ([] : List Pn) = 0 := rfl
  have hi := (List.getElem?_eq_some_iff.mp hp).1
  have s : ps = ps.take i ++ (p :: ps.drop (i + 1)) := by
    conv => lhs; rw [← List.take_append_drop i ps]
    rw [← List.getElem_cons_drop hi, (List.getElem?_eq_some_iff.mp hp).2]
  have b : meas ps = meas (ps.take i) + (measP p + meas (ps.drop (i + 1))) := by
    conv => lhs; rw [s]
    rw [meas_app, meas_cons]
  omega
section
variable {P : Program} {w : World} {K : PySem.W.Frag} {mg : Str → Option Value} {base : Heap} {C : Addr}
def sp_normal_pieces : Sp := fun vs H Q _ => ∃ (l : Addr) (ps : List Pn) (m : Nat), vs = [.ref l] ∧ PL H l ps ∧ LenF m ps ∧ m ≤ 3 ∧ meas ps ≤ 5000 ∧ Ws 5000 ps ∧ (∀ p ∈ ps, Bf p.2) ∧ ps.length ≤ 100000 ∧
  ∀ r H', Same H H' → H r = none → PL H' r (normL ps) → Q (.ref r) H'
theorem c_normal_pieces (T : Txt K mg C) : C8.Cal P w K mg base 4 "normal_pieces" sp_normal_pieces [] := by
  refine calF T.d_normal_pieces sc_normal_pieces (fun vs H Q E h => ?_) (fun f0 cdv A outer s H vs Q E hr h => ?_)
  · obtain ⟨_, _, _, rfl, _⟩ := h; rfl
  · obtain ⟨l, ps, m, rfl, ⟨vs, hl, hp⟩, lF, hm, hmeas, hws, hbf, hlen, q⟩ := h
    have lv := hp.len
    refine ⟨_, (pss_cons (ps_set (i := 1) sc_normal_pieces.nd rfl (Or.inl rfl) (pe_lst pa_nil))
    (pss_cons (ps_for PassesOwn.never rfl (pi_list (pv 0)) (pg_two (K := K) (i := 2) (j := 3) rfl rfl sc_normal_pieces.nd rfl rfl (Or.inl rfl) (Or.inl rfl))
    (pss_cons (ps_if (PW.pt (pw_and (pt_truth (pv 2) (by intro _; rfl)) (pw_and1 (pt_val (C8.pe_c (c_is_open_form T) hr (by decide) (by rfl) (pa_cons (pv 3) pa_nil))))))
    (pss_cons (ps_set (i := 4) sc_normal_pieces.nd rfl (Or.inl rfl) (C8.pe_c (c_root_size T) hr (by decide) (by rfl) (pa_cons (pv 2) pa_nil)))
    (pss_one (ps_expr (C8.pe_c (c_put_power T) hr (by decide) (by rfl) (pa_cons (pv 1) (pa_cons (pe_slice C8.sl_txt (pv 2) po_none (po_some (pv 4))) (pa_cons (C8.pe_c (c_form_times T) hr (by decide) (by rfl) (pa_cons (pe_op op_fdivZ (pe_callB call_len_str (by rfl) T.m_len (by decide +kernel) (pa_cons (pv 2) pa_nil)) (pv 4)) (pa_cons (pe_op op_catS (pe_tup (pa_cons pe_int pa_nil)) (pe_slice sl_drop (pv 3) (po_some pe_int) po_none)) pa_nil))) pa_nil)))))))
    pss_nil)
    (pss_one (ps_if (PW.pt (pw_and (pt_truth (pv 2) (by intro _; rfl)) (pw_and1 (pt_truth (pe_ix ix_tup (pv 3) pe_int (fun _ _ => rfl)) (by intro _; rfl)))))
    (pss_one (ps_expr (C8.pe_c (c_put_fixed T) hr (by decide) (by rfl) (pa_cons (pv 1) (pa_cons (pe_op op_repM (pv 2) (pe_ix ix_tup (pv 3) pe_int (fun _ _ => rfl))) (pa_cons (pe_op op_sub (pe_callB call_len_seq (by rfl) T.m_len (by decide +kernel) (pa_cons (pv 3) pa_nil)) pe_int) pa_nil))))))
    pss_nil))))
    (pss_one (ps_ret (pv 1))))), ?_⟩
    refine ⟨by show 0 ≤ sizeLine; omega, fun r hr0 => ?_⟩
    have rl : r ≠ l := fun z => by rw [z, hl] at hr0; cases hr0
    have s0 := sameNew (o := .lst []) hr0
    refine ⟨_, rfl, l, rfl, ⟨_, .inl (.inl (s0 _ _ hl))⟩, for_list (K := K) (a := l) (xs := vs) (fun i σ H' => Same H H' ∧ (∃ y2 y3 y4, σ = [some (.ref l), some (.ref r), y2, y3, y4]) ∧ PL H' r ((ps.take i).foldl stepN []))
      ⟨s0, ⟨none, none, none, rfl⟩, [], upd_same, .nil⟩ (fun i σ H' _ p => .inl (.inl (p.1 _ _ hl))) (fun i y σ H' hi pI => ?_) (fun σ H' pI => ?_)⟩
    · obtain ⟨s1, ⟨y2, y3, y4, rfl⟩, pl⟩ := pI
      obtain ⟨a, p, rfl, hpi, pc⟩ := hp.get hi
      have mem := List.mem_of_getElem? hpi
      have lp := lF p mem
      have wp := hws p mem
      have bp := hbf p mem
      have step := meas_take_step lF hpi
      have nm : Nm m ((ps.take i).foldl stepN []) := nm_fold _ [] .nil fun q hq => lF q (List.mem_of_mem_take hq)
      have et : (ps.take (i + 1)).foldl stepN [] = stepN ((ps.take i).foldl stepN []) p := by rw [List.take_succ, hpi, List.foldl_append]; rfl
      rw [et]
      generalize (ps.take i).foldl stepN [] = acc at pl nm step
      obtain ⟨nmA, mA⟩ := nm_stepA' nm lp
      have sm := nm.small (B := 5000) (by omega)
      have smA := nmA.small (B := 10000) (by omega)
      obtain ⟨fa, h1, h2⟩ := pc.mono (tup_same s1)
      refine ⟨a, _, rfl, .inl (.inl h1), rfl, _, _, rfl, _, _, rfl, rfl, ?_⟩
      refine cut_seq (fun σ' H2 => SameX r H' H2 ∧ (∃ y4, σ' = [some (.ref l), some (.ref r), some (.str (S p.1)), some (.ref fa), y4]) ∧ PL H2 r (stepA acc p)) (fun K hK => ?_) fun σ' H2 pM => ?_
      · refine ⟨_, rfl, _, tru_word (by omega), ?_⟩
        by_cases ne : p.1 = []
        · rw [decide_eq_false (fun z => z ne)]
          refine iteF (iteF (hK _ _ ⟨.refl _ _, ⟨_, rfl⟩, ?_⟩))
          have e : stepA acc p = acc := by unfold stepA; rw [if_neg fun z => z.1 ne]
          rw [e]
          exact pl
        · rw [decide_eq_true ne]
          refine iteT ⟨_, rfl, fa, p.2, rfl, h2, fun H1 s2 => ⟨_, rfl, ?_⟩⟩
          cases op : isOpen p.2 with
          | false =>
            refine iteF (hK _ _ ⟨.of s2, ⟨_, rfl⟩, ?_⟩)
            have e : stepA acc p = acc := by unfold stepA; rw [if_neg fun z => by rw [op] at z; exact Bool.false_ne_true z.2]
            rw [e]
            exact pl.same s2
          | true =>
            have n0 := List.length_pos_iff.mpr ne
            have r0 := WM.rootN_pos ne
            have rl' := WM.rootN_le ne
            refine iteT ⟨_, rfl, p.1, rfl, ne, by omega, fun H3 s3 => ?_⟩
            have e : stepA acc p = putP acc (p.1.take (WM.rootN p.1)) (timesF (p.1.length / WM.rootN p.1) (0 :: p.2.tail)) := by unfold stepA; rw [if_pos ⟨ne, op⟩]
            refine ⟨_, rfl, _, rfl, _, rfl, _, rfl, S p.1, rfl, len_line (by omega), _, rfl, S p.1, rfl, len_line (by omega), _, rfl, p.1.length, WM.rootN p.1, congrArg (fun n : Nat => V.int n) (S_len p.1), rfl, by omega, by omega, by show 1 ≤ sizeLine; decide, fun t1 n1 => ?_⟩
            have st1 := sameNew (o := .tup [V.int 0]) n1
            have h23 := st1 _ _ ((s2.trans s3) _ _ h2)
            refine ⟨_, rfl, 1, rfl, fa, _, 1, rfl, rfl, rfl, h23, fun p4 H4 s4 h4 => ?_⟩
            have l4 : ((p.2.map fun n : Nat => V.int (n : Nat)).drop 1).length ≤ 4 := by rw [List.length_drop, List.length_map]; omega
            refine ⟨t1, p4, _, _, rfl, rfl, s4 _ _ upd_same, h4, Nat.le_trans (Nat.add_le_add_left l4 1) (by decide), fun p5 H5 s5 h5 => ?_⟩
            have hF5 : FT H5 p5 (0 :: p.2.tail) := by
              unfold FT
              obtain ⟨x, f, ef⟩ : ∃ x f, p.2 = x :: f := by
                cases e : p.2 with
                | nil => rw [e] at lp; simp at lp
                | cons x f => exact ⟨x, f, rfl⟩
              rw [h5, ef]
              rfl
            have sk : p.1.length / WM.rootN p.1 ≤ p.1.length := Nat.div_le_self _ _
            refine ⟨p.1.length / WM.rootN p.1, p5, 0 :: p.2.tail, rfl, hF5, by simp [lp]; omega, by omega, fun n hn => ?_, fun p6 H6 s6 h6 => ?_⟩
            · rcases List.mem_cons.mp hn with x | x
              · omega
              · exact bp n (List.mem_of_mem_tail x)
            · have sAll : Same H' H6 := ((((s2.trans s3).trans st1).trans s4).trans s5).trans s6
              refine ⟨r, p6, acc, p.1.take (WM.rootN p.1), timesF (p.1.length / WM.rootN p.1) (0 :: p.2.tail), m, ?_, pl.same sAll, h6, by unfold timesF; simp [lp], nm.lenF, hm, by omega, fun z => ?_, by rw [List.length_take]; omega, fun x hx => by have := sm.2 x hx; omega, fun H7 s7 p7 => hK _ _ ⟨(SameX.of sAll).trans s7, ⟨_, rfl⟩, by rw [e]; exact p7⟩⟩
              · rw [SX.slice_to (by omega), Int.toNat_natCast]
                rfl
              · have := congrArg List.length z
                rw [List.length_take, List.length_nil] at this
                omega
      · obtain ⟨sX, ⟨y4, rfl⟩, plA⟩ := pM
        have rne : ∀ {b : Addr} {xs : List V}, H' b = some (.tup xs) → H2 b = some (.tup xs) := fun {b xs} e => by
          obtain ⟨us, hus, _⟩ := pl
          exact sX _ _ (fun z => by rw [z, hus] at e; cases e) e
        have h2' : FT H2 fa p.2 := rne h2
        have sH : ∀ {H3 : Hp}, SameX r H' H3 → Same H H3 := fun {H3} sx b o eb => sx _ _ (fun z => by rw [z, hr0] at eb; cases eb) (s1 _ _ eb)
        refine ⟨_, rfl, _, tru_word (by omega), ?_⟩
        have skip : ¬ (p.1 ≠ [] ∧ p.2.headD 0 ≠ 0) → PL H2 r (stepN acc p) := fun no => by
          have e : stepN acc p = stepA acc p := by
            unfold stepN stepB
            rw [if_neg no]
          rw [e]
          exact plA
        by_cases ne : p.1 = []
        · rw [decide_eq_false (fun z => z ne)]
          exact iteF (iteF ⟨sH sX, ⟨_, _, _, rfl⟩, skip fun z => z.1 ne⟩)
        · rw [decide_eq_true ne]
          refine iteT ⟨_, rfl, fa, _, 0, _, rfl, rfl, .inl (.inl h2'), atI_nat (j := 0) (head_get lp), _, rfl, ?_⟩
          by_cases h0 : p.2.headD 0 = 0
          · rw [h0]
            exact iteF ⟨sH sX, ⟨_, _, _, rfl⟩, skip fun z => z.2 h0⟩
          · rw [show ((((p.2.headD 0 : Nat) : Int)) != 0) = true by rw [bne_iff_ne]; omega]
            have mP : p.1.length * p.2.headD 0 ≤ measP p := by unfold measP; exact Nat.mul_le_mul_left _ (by omega)
            have n0 := List.length_pos_iff.mpr ne
            have hh : p.2.headD 0 ≤ p.1.length * p.2.headD 0 := Nat.le_mul_of_pos_left _ n0
            have lw : (WM.pw p.1 (p.2.headD 0)).length ≤ 5000 := by rw [WM.pw_len]; omega
            have lm : (((p.2.map fun n : Nat => V.int (n : Nat)).length : Nat) : Int) - 1 = (m : Int) := by rw [List.length_map, lp]; omega
            refine iteT ⟨_, rfl, _, rfl, _, rfl, fa, _, 0, _, rfl, rfl, .inl (.inl h2'), atI_nat (j := 0) (head_get lp), p.1, p.2.headD 0, rfl, rfl, by omega, by omega, by rw [Nat.mul_comm]; omega, ?_⟩
            refine ⟨_, rfl, fa, _, rfl, .inr (.inl (.inl h2')), _, _, rfl, rfl, r, stepA acc p, WM.pw p.1 (p.2.headD 0), m, ?_, plA, nmA.lenF, hm, by omega, by omega, fun x hx => by have := smA.2 x hx; omega, fun H3 s3 p3 => ⟨sH (sX.trans s3), ⟨_, _, _, rfl⟩, ?_⟩⟩
            · show [V.ref r, V.str (S (WM.pw p.1 (p.2.headD 0))), V.int ((((p.2.map fun n : Nat => V.int (n : Nat)).length : Nat) : Int) - 1)] = _
              rw [lm]
            · have e : stepN acc p = joinF (stepA acc p) (WM.pw p.1 (p.2.headD 0)) m := by unfold stepN stepB; rw [if_pos ⟨ne, h0⟩, lp]; rfl
              rw [e]
              exact p3
    · obtain ⟨s1, ⟨y2, y3, y4, rfl⟩, pl⟩ := pI
      rw [lv, List.take_length] at pl
      exact ⟨_, rfl, q r H' s1 hr0 pl⟩
end
end K41

set_option Elab.async false
set_option linter.all false
set_option maxRecDepth 100000
set_option maxHeartbeats 4000000
namespace K41
open PySem PySem.Spec PyProof.Rows L2 CK SX NM
/-! ### pieces as data -/
def dF (f : F) : PyData := .tuple (f.map fun n : Nat => PyData.int (n : Nat))
def dP (p : Pn) : PyData := .tuple [.str (S p.1), dF p.2]
theorem eqvAll_nats : ∀ f g : F, PyData.eqvAll (f.map fun n : Nat => PyData.int (n : Nat)) (g.map fun n : Nat => PyData.int (n : Nat)) = decide (f = g)
  | [], [] => by simp [PyData.eqvAll]
  | [], _ :: _ => by simp [PyData.eqvAll]
  | _ :: _, [] => by simp [PyData.eqvAll]
  | x :: f, y :: g => by
    rw [List.map_cons, List.map_cons, PyData.eqvAll, eqvAll_nats f g]
    simp [PyData.eqv, Bool.beq_eq_decide_eq]
    by_cases h : x = y
    · subst h
      simp
    · have h' : ¬ ((x : Int) = (y : Int)) := by omega
      simp [h, h']
theorem eqv_dP (p q : Pn) : PyData.eqv (dP p) (dP q) = decide (p = q) := by
  obtain ⟨a, f⟩ := p
  obtain ⟨b, g⟩ := q
  unfold dP dF
  simp only [PyData.eqv, PyData.eqvAll, eqvAll_nats, Bool.and_true]
  have e : (S a == S b) = decide (a = b) := S_beq_eq
  simp only [e]
  by_cases h1 : a = b <;> by_cases h2 : f = g <;> simp [h1, h2]
theorem eqvAll_dP : ∀ a b : List Pn, PyData.eqvAll (a.map dP) (b.map dP) = decide (a = b)
  | [], [] => by simp [PyData.eqvAll]
  | [], _ :: _ => by simp [PyData.eqvAll]
  | _ :: _, [] => by simp [PyData.eqvAll]
  | x :: f, y :: g => by
    rw [List.map_cons, List.map_cons, PyData.eqvAll, eqvAll_dP f g, eqv_dP]
    by_cases h : x = y <;> simp [h]
theorem eqv_dPs (a b : List Pn) : PyData.eqv (.list (a.map dP)) (.list (b.map dP)) = decide (a = b) := by
  rw [← eqvAll_dP]
  simp [PyData.eqv]
theorem str_low {w : List Nat} (h : Low w) : PyData.strOk (S w) = true := by
  unfold PyData.strOk
  rw [← Array.all_toList, List.all_eq_true]
  exact fun c hc => decide_eq_true (by have := h c hc; omega)
theorem lay_nats : ∀ f : F, PyData.canLayAll0 (f.map fun n : Nat => PyData.int (n : Nat)) = true
  | [] => by simp [PyData.canLayAll0]
  | n :: ns => by
    rw [List.map_cons, PyData.canLayAll0, lay_nats ns]
    simp [PyData.canLay0]
theorem deep_nats : ∀ f : F, PyData.depthAll (f.map fun n : Nat => PyData.int (n : Nat)) = 0
  | [] => by simp [PyData.depthAll]
  | n :: ns => by
    rw [List.map_cons, PyData.depthAll, deep_nats ns]
    simp [PyData.depth]
theorem lay_dP {p : Pn} (h : Low p.1) : (dP p).canLay0 = true := by simp [dP, dF, PyData.canLay0, PyData.canLayAll0, str_low h, lay_nats]
theorem deep_dP (p : Pn) : (dP p).depth = 2 := by simp [dP, dF, PyData.depth, PyData.depthAll, deep_nats]
theorem lay_dPs : ∀ ps : List Pn, (∀ p ∈ ps, Low p.1) → PyData.canLayAll0 (ps.map dP) = true
  | [], _ => by simp [PyData.canLayAll0]
  | p :: r, h => by
    rw [List.map_cons, PyData.canLayAll0, lay_dPs r fun q hq => h q (List.mem_cons_of_mem _ hq), lay_dP (h p List.mem_cons_self)]
    rfl
theorem deep_dPs : ∀ ps : List Pn, PyData.depthAll (ps.map dP) ≤ 2
  | [] => by simp [PyData.depthAll]
  | p :: r => by
    have := deep_dPs r
    rw [List.map_cons, PyData.depthAll, deep_dP]
    omega
theorem shaped_dPs {ps : List Pn} (h : ∀ p ∈ ps, Low p.1) : SeqAt.shaped (.list (ps.map dP)) = true := by
  unfold SeqAt.shaped
  rw [PyData.canLay0, lay_dPs ps h, PyData.depth]
  have := deep_dPs ps
  rw [decide_eq_true (by omega)]
  rfl
section
variable {K : PySem.W.Frag} {H : Hp}
theorem dpAll_nats : ∀ f : F, DpAll K H (f.map fun n : Nat => V.int (n : Nat)) (f.map fun n : Nat => PyData.int (n : Nat))
  | [] => .nil
  | n :: ns => .cons (.int _) (dpAll_nats ns)
theorem dp_FT {a : Addr} {f : F} (h : FT H a f) : Dp K H (.ref a) (dF f) := .tup (.inl (.inl h)) (dpAll_nats f)
theorem dp_PC {a : Addr} {p : Pn} (h : PC H a p) : Dp K H (.ref a) (dP p) := by
  obtain ⟨fa, h1, h2⟩ := h
  exact .tup (.inl (.inl h1)) (.cons (.str _) (.cons (dp_FT h2) .nil))
theorem dpAll_Pcs {vs : List V} {ps : List Pn} (h : Pcs H vs ps) : DpAll K H vs (ps.map dP) := by
  induction h with
  | nil => exact .nil
  | cons e _ ih => exact .cons (dp_PC e) ih
theorem dp_PL {l : Addr} {ps : List Pn} (h : PL H l ps) : Dp K H (.ref l) (.list (ps.map dP)) := by
  obtain ⟨vs, e, p⟩ := h
  exact .lst (.inl (.inl e)) (dpAll_Pcs p)
end
/-! ### letters stay letters -/
def LowP (ps : List Pn) : Prop := ∀ p ∈ ps, Low p.1
theorem low_app {a b : List Nat} (h : Low a) (g : Low b) : Low (a ++ b) := fun c hc => (List.mem_append.mp hc).elim (h c) (g c)
theorem low_take {a : List Nat} (h : Low a) (n : Nat) : Low (a.take n) := fun c hc => h c (List.mem_of_mem_take hc)
theorem low_drop {a : List Nat} (h : Low a) (n : Nat) : Low (a.drop n) := fun c hc => h c (List.mem_of_mem_drop hc)
theorem low_pw {a : List Nat} (h : Low a) : ∀ n, Low (WM.pw a n)
  | 0 => fun c hc => absurd hc List.not_mem_nil
  | n + 1 => by rw [WM.pw_succ]; exact low_app h (low_pw h n)
theorem low_rotR {u : List Nat} (h : Low u) (k : Nat) : Low (rotR u k) := low_app (low_drop h _) (low_take h _)
theorem lowP_joinF {acc : List Pn} {z : WM.W} {m : Nat} (h : LowP acc) (hz : Low z) : LowP (joinF acc z m) := fun p hp => by
  rcases mem_joinF hp with x | x | ⟨q, hq, x⟩
  · exact h p x
  · rw [x]; exact hz
  · rw [x]; exact low_app (h q hq) hz
theorem lowP_pushP {acc : List Pn} {u : WM.W} {f : F} (h : LowP acc) (hu : Low u) : LowP (pushP acc u f) := fun p hp => by
  unfold pushP at hp
  split at hp
  · split at hp
    · rcases List.mem_append.mp hp with x | x
      · exact h p (mem_dropLast x)
      · rw [List.mem_singleton.mp x]; exact hu
    · rcases List.mem_append.mp hp with x | x
      · exact h p x
      · rw [List.mem_singleton.mp x]; exact hu
  · rcases List.mem_append.mp hp with x | x
    · exact h p x
    · rw [List.mem_singleton.mp x]; exact hu
theorem low_nil : Low [] := fun c hc => absurd hc List.not_mem_nil
theorem lowP_putP {acc : List Pn} {u : WM.W} {f : F} (h : LowP acc) (hu : Low u) : LowP (putP acc u f) := by
  unfold putP
  split
  · next q hq =>
    split
    · exact lowP_joinF (lowP_pushP h hu) low_nil
    · have lq := h q (List.mem_of_getLast? hq)
      exact lowP_joinF (lowP_pushP (lowP_joinF (fun p hp => h p (mem_dropLast hp)) (low_take lq _)) (low_rotR hu _)) (low_drop lq _)
  · exact lowP_joinF (lowP_pushP h hu) low_nil
theorem lowP_fold : ∀ (ps acc : List Pn), LowP acc → LowP ps → LowP (ps.foldl stepN acc)
  | [], _, h, _ => h
  | p :: r, acc, h, hp => lowP_fold r _ (by
      have lp := hp p List.mem_cons_self
      have hA : LowP (stepA acc p) := by
        unfold stepA
        split
        · exact lowP_putP h (low_take lp _)
        · exact h
      show LowP (stepB (stepA acc p) p)
      unfold stepB
      split
      · exact lowP_joinF hA (low_pw lp _)
      · exact hA) fun q hq => hp q (List.mem_cons_of_mem _ hq)
theorem lowP_normL {ps : List Pn} (h : LowP ps) : LowP (normL ps) := lowP_fold ps [] (fun p hp => absurd hp List.not_mem_nil) h
end K41

set_option Elab.async false
set_option linter.all false
set_option maxRecDepth 100000
set_option maxHeartbeats 4000000
namespace K41
open PySem PySem.Spec PyProof.Rows L2 CK SX NM
theorem sum_meas : ∀ ps : List Pn, (ps.map fun p => ((measP p : Nat) : Int)).sum = ((meas ps : Nat) : Int)
  | [] => rfl
  | p :: r => by
    rw [List.map_cons, List.sum_cons, sum_meas r, meas_cons, Int.natCast_add]
/-- a value that is a piece, or one of the wrong ones that are met -/
inductive PV (H : Hp) (m : Nat) : V → Bool → Prop
  | good {a : Addr} {p : Pn} : PC H a p → p.2.length = m + 1 → p.1.length ≤ 2000 → Low p.1 → PV H m (.ref a) true
  | non : PV H m .non false
  | lst {a : Addr} {xs : List V} : H a = some (.lst xs) → PV H m (.ref a) false
  | long {a fa : Addr} {z : List Nat} : H a = some (.tup [.str (S z), .ref fa]) → 2000 < z.length → z.length ≤ 1000000 → Low z → PV H m (.ref a) false
theorem PV.same {H H' : Hp} {m : Nat} {v : V} {b : Bool} (h : PV H m v b) (s : Same H H') : PV H' m v b := by
  cases h with
  | good h1 h2 h3 h4 => exact .good (h1.mono (tup_same s)) h2 h3 h4
  | non => exact .non
  | lst h => exact .lst (s _ _ h)
  | long h1 h2 h3 h4 => exact .long (s _ _ h1) h2 h3 h4
section
variable {P : Program} {w : World} {K : PySem.W.Frag} {mg : Str → Option Value} {base : Heap} {C : Addr}
def sp_is_piece : Sp := fun vs H Q _ => ∃ (m : Nat) (v : V) (b : Bool), vs = [.int m, v] ∧ m ≤ 3 ∧ PV H m v b ∧ ∀ H', Same H H' → Q (.bl b) H'
theorem c_is_piece (T : Txt K mg C) : C8.Cal P w K mg base 4 "is_piece" sp_is_piece [] := by
  refine calF T.d_is_piece sc_is_piece (fun vs H Q E h => ?_) (fun f cdv A outer s H vs Q E hr h => ?_)
  · obtain ⟨_, _, _, rfl, _⟩ := h; rfl
  · obtain ⟨m, v, b, rfl, m3, hv, q⟩ := h
    refine ⟨_, (pss_cons (ps_if (PW.pt (pw_or (pt_not (pt_val (pe_callB call_isK (by rfl) T.m_isinstance (by decide +kernel) (pa_cons (pv 1) (pa_cons (pe_bltn (v := .ty "tuple") (by rfl) T.m_tuple (by decide +kernel) rfl) pa_nil))))) (pw_or1 (pt_cmpR op_ne (pe_callB call_len_seq (by rfl) T.m_len (by decide +kernel) (pa_cons (pv 1) pa_nil)) pe_int (nomark _)))))
    (pss_one (ps_ret pe_bl))
    pss_nil)
    (pss_one (ps_ret (pe_and (C8.pe_c (c_is_lettered T) hr (by decide) (by rfl) (pa_cons (pe_ix ix_tup (pv 1) pe_int (fun _ _ => rfl)) (pa_cons (C8.pe_gc (by rfl) T.k_MOST_PIECE_LETTERS) pa_nil))) (pe_one (C8.pe_c (c_is_form_for T) hr (by decide) (by rfl) (pa_cons (pv 0) (pa_cons (pe_ix ix_tup (pv 1) pe_int (fun _ _ => rfl)) pa_nil)))))))), ?_⟩
    cases hv with
    | non => exact ⟨_, rfl, .non, "tuple", _, rfl, .non, kit_tuple .non, _, rfl, iteT (q H (Same.refl _))⟩
    | lst h =>
      rename_i a xs
      have kn : Kn H (.ref a) := .lst h
      refine ⟨_, rfl, .ref a, "tuple", _, rfl, kn, kit_tuple kn, _, rfl, ?_⟩
      rw [show isTu H (.ref a) = false by simp only [isTu, h]]
      exact iteT (q H (Same.refl _))
    | long h1 h2 h3 h4 =>
      rename_i a fa z
      have kn : Kn H (.ref a) := .tup h1
      refine ⟨_, rfl, .ref a, "tuple", _, rfl, kn, kit_tuple kn, _, rfl, ?_⟩
      rw [isTu_tup h1]
      refine iteF ⟨_, rfl, a, _, rfl, .inr (.inl (.inl h1)), rfl, _, rfl, iteF ?_⟩
      refine ⟨_, rfl, a, _, 0, _, rfl, rfl, .inl (.inl h1), atI_nat (j := 0) rfl, z, 2000, rfl, h3, h4, _, rfl, ?_⟩
      rw [decide_eq_false (by omega)]
      exact iteF (q H (Same.refl _))
    | good h1 h2 h3 h4 =>
      rename_i a p
      obtain ⟨fa, e1, e2⟩ := h1
      have kn : Kn H (.ref a) := .tup e1
      refine ⟨_, rfl, .ref a, "tuple", _, rfl, kn, kit_tuple kn, _, rfl, ?_⟩
      rw [isTu_tup e1]
      refine iteF ⟨_, rfl, a, _, rfl, .inr (.inl (.inl e1)), rfl, _, rfl, iteF ?_⟩
      refine ⟨_, rfl, a, _, 0, _, rfl, rfl, .inl (.inl e1), atI_nat (j := 0) rfl, p.1, 2000, rfl, by omega, h4, _, rfl, ?_⟩
      rw [decide_eq_true (show p.1.length ≤ 2000 from h3)]
      refine iteT ⟨_, rfl, _, rfl, a, _, 1, _, rfl, rfl, .inl (.inl e1), atI_nat (j := 1) rfl, (m : Int), .ref fa, rfl, .tup e2, fun b xs eb hb => ?_, fun H1 s1 => ?_⟩
      · cases eb
        have := hb.symm.trans e2
        cases this
        exact ⟨small1000 (by rw [List.length_map, h2]; omega), kn_nats⟩
      · rw [formB_FT e2 h2]
        exact q H1 s1
def sp_measure : Sp := fun vs H Q _ => ∃ (l : Addr) (ps : List Pn) (m : Nat), vs = [.ref l] ∧ PL H l ps ∧ LenF m ps ∧ Ws 1000000 ps ∧ (∀ p ∈ ps, Bf p.2) ∧ ps.length ≤ 1000000 ∧ ∀ H', Same H H' → Q (.int (meas ps : Nat)) H'
theorem c_measure (T : Txt K mg C) : C8.Cal P w K mg base 2 "measure" sp_measure [] := by
  refine calF T.d_measure sc_measure (fun vs H Q E h => ?_) (fun f cdv A outer s H vs Q E hr h => ?_)
  · obtain ⟨_, _, _, rfl, _⟩ := h; rfl
  · obtain ⟨l, ps, m, rfl, ⟨vs, hl, hp⟩, lF, ws, bf, hlen, q⟩ := h
    have len := hp.len
    refine ⟨_, (pss_one (ps_ret (pe_callB (cr_sum rfl) (by rfl) T.m_sum (by decide +kernel) (pa_cons (pe_lc (own := [("word", 1), ("form", 2)]) (by rfl) sc_measure.nd (pi_list (pv 0)) (blkOk_by (N := ["pieces", "word", "form"]) (sc := C8.fnScope (topS 37)) (own := [("word", 1), ("form", 2)]) (by decide +kernel)) (fun _ _ _ _ _ => (pg_two (K := K) (i := 1) (j := 2) rfl rfl sc_measure.nd rfl rfl (Or.inl rfl) (Or.inl rfl))) (fun _ _ _ _ _ => pts_nil) (fun _ _ _ _ _ => (pe_op op_mulZ (pe_callB call_len_str (by rfl) T.m_len (by decide +kernel) (pa_cons (pv 1) pa_nil)) (pe_op op_addB (pe_ix ix_tupH (pv 2) pe_int (fun _ _ => rfl)) (C8.pe_c (c_is_open_form T) hr (by decide) (by rfl) (pa_cons (pv 2) pa_nil)))))) pa_nil)))), ?_⟩
    refine ⟨_, rfl, l, rfl, ⟨_, .inl (.inl hl)⟩, fun D hD => ?_⟩
    refine lc_list (K := K) (a := l) (xs := vs) (fun i H1 => Same H H1 ∧ H1 D = some (.lst ((ps.take i).map fun p => V.int ((measP p : Nat) : Int)))) ⟨sameNew hD, by rw [upd_same]; rfl⟩ (fun i H1 _ p => .inl (.inl (p.1 _ _ hl))) (fun i y H1 hi p => ?_) fun H1 p => ?_
    · obtain ⟨s1, hD1⟩ := p
      obtain ⟨a, p, rfl, hpi, pc⟩ := hp.get hi
      have mem := List.mem_of_getElem? hpi
      have hii := (List.getElem?_eq_some_iff.mp hpi).1
      have lp := lF p mem
      have wp := ws p mem
      obtain ⟨fa, e1, e2⟩ := pc.mono (tup_same s1)
      have bh : p.2.headD 0 < 2 ^ 900 := by
        cases e : p.2 with
        | nil => rw [e] at lp; simp at lp
        | cons x f => exact bf p mem x (by rw [e]; exact List.mem_cons_self)
      refine ⟨a, _, rfl, .inl (.inl e1), rfl, _, _, rfl, _, _, rfl, rfl, rfl, ?_⟩
      refine ⟨_, rfl, S p.1, rfl, len_line (by omega), _, rfl, fa, _, 0, _, rfl, rfl, e2, atI_nat (j := 0) (head_get lp), _, rfl, fa, p.2, rfl, e2, fun H2 s2 => ?_⟩
      refine ⟨_, _, rfl, rfl, p.1.length, p.2.headD 0 + (if isOpen p.2 then 1 else 0), congrArg (fun n : Nat => V.int n) (S_len _), congrArg V.int (by split <;> simp), by omega, by split <;> omega, _, s2 _ _ hD1, ?_, same_upd2 hD (s1.trans s2), ?_⟩
      · rw [List.length_map, List.length_take, sizeLine_eq]
        omega
      · rw [upd_same, List.take_succ, hpi]
        simp [measP]
    · obtain ⟨s1, hD1⟩ := p
      rw [len, List.take_length] at hD1
      refine ⟨D, ps.map fun p => ((measP p : Nat) : Int), rfl, .inl (.inl (by rw [hD1, List.map_map]; rfl)), ?_⟩
      rw [sum_meas]
      exact q _ s1
end
end K41

set_option Elab.async false
set_option linter.all false
set_option maxRecDepth 100000
set_option maxHeartbeats 4000000
namespace K41
open PySem PySem.Spec PyProof.Rows L2 CK SX NM
/-- a list of pieces, as the program lets it -/
structure GL (H : Hp) (m : Nat) (l : Addr) (ps : List Pn) : Prop where
  at_ : PL H l ps
  len : LenF m ps
  ws : Ws 2000 ps
  low : LowP ps
  bf : ∀ p ∈ ps, Bf p.2
  few : ps.length ≤ 5000
theorem GL.same {H H' : Hp} {m : Nat} {l : Addr} {ps : List Pn} (h : GL H m l ps) (s : Same H H') : GL H' m l ps := ⟨h.at_.same s, h.len, h.ws, h.low, h.bf, h.few⟩
inductive PLV (H : Hp) (m : Nat) : V → Bool → Prop
  | tup {a : Addr} {xs : List V} : H a = some (.tup xs) → PLV H m (.ref a) false
  | bad {l : Addr} {vs : List V} {bs : List Bool} : H l = some (.lst vs) → vs.length ≤ 5000 → bs.length = vs.length → (∀ (i : Nat) (v : V) (b : Bool), vs[i]? = some v → bs[i]? = some b → PV H m v b) → bs.all id = false → PLV H m (.ref l) false
  | good {l : Addr} {ps : List Pn} : GL H m l ps → PLV H m (.ref l) (decide (meas ps ≤ 2000))
theorem small1000000 {n : Nat} (h : n ≤ 1000000) : n < sizeLine := by rw [sizeLine_eq]; omega
theorem range_bools (bs : List Bool) : (List.range bs.length).map (fun i => V.bl (bs.getD i false)) = bs.map V.bl := by
  refine List.ext_getElem? fun i => ?_
  by_cases h : i < bs.length
  · rw [List.getElem?_map, List.getElem?_range h, List.getElem?_map, List.getElem?_eq_getElem h]
    show some (V.bl (bs.getD i false)) = some (V.bl bs[i])
    rw [List.getD_eq_getElem?_getD, List.getElem?_eq_getElem h]
    rfl
  · rw [List.getElem?_eq_none (by simp; omega), List.getElem?_eq_none (by simp; omega)]
section
variable {P : Program} {w : World} {K : PySem.W.Frag} {mg : Str → Option Value} {base : Heap} {C : Addr}
def sp_need_measure : Sp := fun vs H Q _ => ∃ (n : Nat), vs = [.int n] ∧ n ≤ 2000 ∧ Q .non H
theorem c_need_measure (T : Txt K mg C) : C8.Cal P w K mg base 1 "need_measure" sp_need_measure [] := by
  refine calF T.d_need_measure sc_need_measure (fun vs H Q E h => ?_) (fun f cdv A outer s H vs Q E hr h => ?_)
  · obtain ⟨_, rfl, _⟩ := h; rfl
  · obtain ⟨n, rfl, hn, q⟩ := h
    refine ⟨_, (pss_one (ps_if (pt_cmpR op_gt (pv 0) (C8.pe_gc (by rfl) T.k_MOST_MEASURE) (nomark _))
    (pss_one ps_never)
    pss_nil)), ?_⟩
    refine ⟨_, rfl, _, 2000, rfl, rfl, _, rfl, ?_⟩
    rw [decide_eq_false (by omega)]
    exact iteF q
def sp_need_pieces : Sp := fun vs H Q _ => ∃ (m : Nat) (l : Addr) (ps : List Pn), vs = [.int m, .ref l] ∧ m ≤ 3 ∧ GL H m l ps ∧ meas ps ≤ 2000 ∧ ∀ H', Same H H' → Q .non H'
theorem c_need_pieces (T : Txt K mg C) : C8.Cal P w K mg base 5 "need_pieces" sp_need_pieces [] := by
  refine calF T.d_need_pieces sc_need_pieces (fun vs H Q E h => ?_) (fun f cdv A outer s H vs Q E hr h => ?_)
  · obtain ⟨_, _, _, rfl, _⟩ := h; rfl
  · obtain ⟨m, l, ps, rfl, m3, g, hme, q⟩ := h
    obtain ⟨vs, h1, hp⟩ := id g.at_
    have lv := hp.len
    have hf := g.few
    have kn : Kn H (.ref l) := .lst h1
    refine ⟨_, (pss_cons (ps_expr (C8.pe_c (c_need_many T) hr (by decide) (by rfl) (pa_cons (pv 0) pa_nil)))
    (pss_cons (ps_if (PW.pt (pw_or (pt_not (pt_val (pe_callB call_isK (by rfl) T.m_isinstance (by decide +kernel) (pa_cons (pv 1) (pa_cons (pe_bltn (v := .ty "list") (by rfl) T.m_list (by decide +kernel) rfl) pa_nil))))) (pw_or1 (pt_cmpR op_gt (pe_callB call_len_seq (by rfl) T.m_len (by decide +kernel) (pa_cons (pv 1) pa_nil)) (C8.pe_gc (by rfl) T.k_MOST_PIECES) (nomark _)))))
    (pss_one ps_never)
    pss_nil)
    (pss_cons (ps_for PassesOwn.never rfl (pi_list (pv 1)) (pg_name (i := 2) sc_need_pieces.nd rfl (Or.inl rfl))
    (pss_one (ps_if (pt_not (pt_val (C8.pe_c (c_is_piece T) hr (by decide) (by rfl) (pa_cons (pv 0) (pa_cons (pv 2) pa_nil)))))
    (pss_one ps_never)
    pss_nil)))
    (pss_one (ps_expr (C8.pe_c (c_need_measure T) hr (by decide) (by rfl) (pa_cons (C8.pe_c (c_measure T) hr (by decide) (by rfl) (pa_cons (pv 1) pa_nil)) pa_nil))))))), ?_⟩
    refine ⟨_, rfl, m, rfl, by omega, by omega, ?_⟩
    refine ⟨_, rfl, .ref l, "list", _, rfl, kn, kit_list kn, _, rfl, ?_⟩
    rw [isLi_lst h1]
    refine iteF ⟨_, rfl, l, _, rfl, .inl (.inl (.inl h1)), _, 5000, rfl, rfl, _, rfl, ?_⟩
    rw [decide_eq_false (by omega)]
    refine iteF ?_
    refine ⟨_, rfl, l, rfl, ⟨_, .inl (.inl h1)⟩, for_list (K := K) (a := l) (xs := vs) (fun i σ H' => Same H H' ∧ ∃ y2, σ = [some (.int m), some (.ref l), y2]) ⟨Same.refl _, none, rfl⟩ (fun i σ H' _ p => .inl (.inl (p.1 _ _ h1))) (fun i y σ H' hi p => ?_) (fun σ H' p => ?_)⟩
    · obtain ⟨s1, y2, rfl⟩ := p
      obtain ⟨a, p, rfl, hpi, pc⟩ := hp.get hi
      have mem := List.mem_of_getElem? hpi
      exact ⟨_, rfl, _, rfl, m, _, true, rfl, m3, .good (pc.mono (tup_same s1)) (g.len p mem) (g.ws p mem) (g.low p mem), fun H2 s2 => ⟨_, rfl, iteF ⟨s1.trans s2, _, rfl⟩⟩⟩
    · obtain ⟨s1, y2, rfl⟩ := p
      exact ⟨_, rfl, l, ps, m, rfl, g.at_.same s1, g.len, fun p hp => by have := g.ws p hp; omega, g.bf, by omega, fun H2 s2 => ⟨meas ps, rfl, hme, q H2 (s1.trans s2)⟩⟩
def sp_normal : Sp := fun vs H Q _ => ∃ (m : Nat) (l : Addr) (ps : List Pn), vs = [.int m, .ref l] ∧ m ≤ 3 ∧ GL H m l ps ∧ meas ps ≤ 2000 ∧ ∀ r H', Same H H' → H r = none → PL H' r (normL ps) → Q (.ref r) H'
theorem c_normal (T : Txt K mg C) : C8.Cal P w K mg base 6 "normal" sp_normal [] := by
  refine calF T.d_normal sc_normal (fun vs H Q E h => ?_) (fun f cdv A outer s H vs Q E hr h => ?_)
  · obtain ⟨_, _, _, rfl, _⟩ := h; rfl
  · obtain ⟨m, l, ps, rfl, m3, g, hme, q⟩ := h
    have hf := g.few
    refine ⟨_, (pss_cons (ps_expr (C8.pe_c (c_need_pieces T) hr (by decide) (by rfl) (pa_cons (pv 0) (pa_cons (pv 1) pa_nil))))
    (pss_one (ps_ret (C8.pe_c (c_normal_pieces T) hr (by decide) (by rfl) (pa_cons (pv 1) pa_nil))))), ?_⟩
    exact ⟨_, rfl, _, rfl, m, l, ps, rfl, m3, g, hme, fun H1 s1 => ⟨_, rfl, l, ps, m, rfl, g.at_.same s1, g.len, m3, by omega, fun p hp => by have := g.ws p hp; omega, g.bf, by omega, fun r H2 s2 n2 p2 => q r H2 (s1.trans s2) (s1.free n2) p2⟩⟩
end
end K41

set_option linter.all false
set_option maxRecDepth 100000
namespace NM
open WM
/-! ### a word is no power exactly if it stands in itself doubled, without the first letter, at the end first -/
/-- w stands at the place k + 1 of w w -/
def Occ (w : W) (k : Nat) : Prop := ((w ++ w).drop (k + 1)).take w.length = w
theorem dbl_get {w : W} (h : w ≠ []) {i : Nat} (hi : i < 2 * w.length) : (w ++ w)[i]? = w[i % w.length]? := by
  have n0 := List.length_pos_iff.mpr h
  by_cases z : i < w.length
  · rw [List.getElem?_append_left z, Nat.mod_eq_of_lt z]
  · rw [List.getElem?_append_right (by omega), Nat.mod_eq_sub_mod (show i ≥ w.length by omega), Nat.mod_eq_of_lt (by omega)]
theorem occ_get {w : W} (h : w ≠ []) {k : Nat} (hk : k + 1 ≤ w.length) : Occ w k ↔ ∀ i, i < w.length → w[(k + 1 + i) % w.length]? = w[i]? := by
  unfold Occ
  constructor
  · intro e i hi
    have : (((w ++ w).drop (k + 1)).take w.length)[i]? = w[i]? := by rw [e]
    rw [List.getElem?_take_of_lt hi, List.getElem?_drop, dbl_get h (by omega)] at this
    exact this
  · intro e
    refine List.ext_getElem? fun i => ?_
    by_cases hi : i < w.length
    · rw [List.getElem?_take_of_lt hi, List.getElem?_drop, dbl_get h (by omega)]
      exact e i hi
    · rw [List.getElem?_eq_none (by rw [List.length_take]; omega), List.getElem?_eq_none (by omega)]
theorem occ_last {w : W} (h : w ≠ []) : Occ w (w.length - 1) := by
  have n0 := List.length_pos_iff.mpr h
  refine (occ_get h (by omega)).mpr fun i hi => ?_
  rw [show w.length - 1 + 1 + i = i + w.length by omega, Nat.add_mod_right, Nat.mod_eq_of_lt hi]
/-- an earlier place makes a shorter period -/
theorem occ_not_prim {w : W} (h : w ≠ []) {k : Nat} (hk : k + 1 < w.length) (o : Occ w k) : ¬ Prim w := by
  intro pr
  have n0 := List.length_pos_iff.mpr h
  have e := (occ_get h (by omega)).mp o
  -- the word doubled has the periods k + 1 and its half
  have dl : (w ++ w).length = 2 * w.length := by rw [List.length_append]; omega
  have p1 : Per (k + 1) (w ++ w) := fun i hi => by
    rw [dl] at hi
    rw [dbl_get h (by omega), dbl_get h hi]
    have := e (i % w.length) (Nat.mod_lt _ n0)
    rw [← this]
    congr 1
    rw [Nat.add_mod_mod, Nat.add_comm]
  have p2 : Per w.length (w ++ w) := fun i hi => by
    rw [dl] at hi
    rw [dbl_get h (by omega), dbl_get h hi, Nat.add_mod_right]
  have g := per_gcd p1 p2 (by rw [dl]; omega)
  have gp : 0 < Nat.gcd (k + 1) w.length := Nat.gcd_pos_of_pos_left _ (by omega)
  have gd : Nat.gcd (k + 1) w.length ∣ w.length := Nat.gcd_dvd_right _ _
  have gl : Nat.gcd (k + 1) w.length ≤ k + 1 := Nat.le_of_dvd (by omega) (Nat.gcd_dvd_left _ _)
  have pw' : Per (Nat.gcd (k + 1) w.length) w := by
    have := per_take (k := w.length) g
    rw [List.take_left] at this
    exact this
  have := pr.2 _ gp gd pw'
  omega
theorem not_prim_occ {w : W} (h : w ≠ []) (np : ¬ Prim w) : ∃ k, k + 1 < w.length ∧ Occ w k := by
  have n0 := List.length_pos_iff.mpr h
  have : ∃ d, 0 < d ∧ d ∣ w.length ∧ Per d w ∧ d ≠ w.length := Classical.byContradiction fun z => np ⟨h, fun d h1 h2 h3 => Classical.byContradiction fun y => z ⟨d, h1, h2, h3, y⟩⟩
  obtain ⟨d, h1, h2, h3, h4⟩ := this
  have dl := Nat.le_of_dvd n0 h2
  refine ⟨d - 1, by omega, (occ_get h (by omega)).mpr fun i hi => ?_⟩
  rw [show d - 1 + 1 + i = i + d by omega, per_at h1 h3 (Nat.mod_lt _ n0), per_at h1 h3 hi, Nat.mod_mod_of_dvd _ h2, Nat.add_mod_right]
/-! ### the law's rules -/
theorem isPow_one {p : Pn} {m : Nat} (h : p.2 = one1 m) : isPow p = false := by
  unfold isPow
  rw [h]
  rfl
theorem sum_zero : ∀ {l : List Nat}, l.sum = 0 ↔ ∀ x ∈ l, x = 0
  | [] => by simp
  | a :: l => by
    rw [List.sum_cons]
    constructor
    · intro h x hx
      rcases List.mem_cons.mp hx with z | z
      · omega
      · exact sum_zero.mp (show l.sum = 0 by omega) x z
    · intro h
      have a0 := h a List.mem_cons_self
      have := sum_zero.mpr fun x hx => h x (List.mem_cons_of_mem _ hx)
      omega
/-- what the law asks of a piece -/
def okP (m : Nat) (p : Pn) : Prop := (Prim p.1 ∨ p.2 = one1 m) ∧ p.1 ≠ [] ∧ (p.2 = one1 m ∨ (p.2.headD 0 = 0 ∧ p.2.sum ≠ 0))
theorem okP_iff {m : Nat} {p : Pn} (hl : p.2.length = m + 1) : okP m p ↔ NormP m p := by
  constructor
  · rintro ⟨h1, h2, h3⟩
    refine ⟨h2, hl, fun z => ?_, fun z => ?_⟩
    · rcases h3 with y | y
      · exact y
      · have : isPow p = true := decide_eq_true y.1
        rw [this] at z
        cases z
    · rcases h3 with y | y
      · rw [isPow_one y] at z
        cases z
      · have ne1 : p.2 ≠ one1 m := fun x => by rw [isPow_one x] at z; cases z
        refine ⟨h1.resolve_right ne1, ?_⟩
        cases e : isOpen p.2 with
        | true => rfl
        | false =>
          exfalso
          apply y.2
          refine sum_zero.mpr fun x hx => ?_
          cases ep : p.2 with
          | nil => rw [ep] at hx; cases hx
          | cons a f =>
            rw [ep] at hx
            rcases List.mem_cons.mp hx with w | w
            · have := y.1
              rw [ep] at this
              rw [w]
              exact this
            · refine Classical.byContradiction fun x0 => ?_
              have : isOpen p.2 = true := isOpen_iff.mpr ⟨x, by rw [ep]; exact w, x0⟩
              rw [e] at this
              cases this
  · intro h
    cases e : isPow p with
    | false => exact ⟨.inr (h.fix e), h.ne, .inl (h.fix e)⟩
    | true =>
      obtain ⟨a, b⟩ := h.pow e
      refine ⟨.inl a, h.ne, .inr ⟨of_decide_eq_true e, fun z => ?_⟩⟩
      obtain ⟨x, hx, x0⟩ := isOpen_iff.mp b
      exact x0 (sum_zero.mp z x (List.mem_of_mem_tail hx))
/-- what the law asks of two neighbours -/
def okA (m : Nat) (p q : Pn) : Prop := ¬ (p.2 = one1 m ∧ q.2 = one1 m) ∧ ¬ (p.2 ≠ one1 m ∧ q.2 ≠ one1 m ∧ p.1 = q.1) ∧ ¬ (p.2 = one1 m ∧ p.1.getLast? = q.1.getLast?)
theorem fix_iff {m : Nat} {p : Pn} (h : NormP m p) : isPow p = false ↔ p.2 = one1 m := ⟨h.fix, isPow_one⟩
theorem okA_iff {m : Nat} {p q : Pn} (hp : NormP m p) (hq : NormP m q) : okA m p q ↔ Adj p q := by
  have fp := fix_iff hp
  have fq := fix_iff hq
  constructor
  · rintro ⟨h1, h2, h3⟩
    refine ⟨fun z => ⟨?_, fun y => h3 ⟨fp.mp z, y⟩⟩, fun z y x => ?_⟩
    · cases e : isPow q with
      | true => rfl
      | false => exact absurd ⟨fp.mp z, fq.mp e⟩ h1
    · refine h2 ⟨fun w => ?_, fun w => ?_, x⟩
      · rw [fp.mpr w] at z
        cases z
      · rw [fq.mpr w] at y
        cases y
  · intro h
    refine ⟨fun z => ?_, fun z => ?_, fun z => (h.fix (fp.mpr z.1)).2 z.2⟩
    · have := (h.fix (fp.mpr z.1)).1
      rw [fq.mpr z.2] at this
      cases this
    · have e1 : isPow p = true := by
        cases e : isPow p with
        | true => rfl
        | false => exact absurd (fp.mp e) z.1
      have e2 : isPow q = true := by
        cases e : isPow q with
        | true => rfl
        | false => exact absurd (fq.mp e) z.2.1
      exact h.pow e1 e2 z.2.2
theorem nm_iff {m : Nat} {ps : List Pn} (hl : LenF m ps) : Nm m ps ↔ (∀ p ∈ ps, okP m p) ∧ ∀ (i : Nat) (p q : Pn), ps[i]? = some p → ps[i + 1]? = some q → okA m p q := by
  constructor
  · intro h
    exact ⟨fun p hp => (okP_iff (hl p hp)).mpr (h.all p hp), fun i p q hi hj => (okA_iff (h.all p (List.mem_of_getElem? hi)) (h.all q (List.mem_of_getElem? hj))).mpr (h.adj i p q hi hj)⟩
  · rintro ⟨h1, h2⟩
    have all : ∀ p ∈ ps, NormP m p := fun p hp => (okP_iff (hl p hp)).mp (h1 p hp)
    exact ⟨all, fun i p q hi hj => (okA_iff (all p (List.mem_of_getElem? hi)) (all q (List.mem_of_getElem? hj))).mp (h2 i p q hi hj)⟩
theorem normL_iff {m : Nat} {ps : List Pn} (hl : LenF m ps) : normL ps = ps ↔ Nm m ps := ⟨fun e => by rw [← e]; exact nm_normL hl, normL_id⟩
theorem wr_flat (pt : List Nat) : ∀ ps : List Pn, ((ps.filter fun p => decide (p.1 ≠ [])).map (wrt pt)).flatten = wr pt ps
  | [] => rfl
  | p :: r => by
    by_cases h : p.1 = []
    · rw [List.filter_cons_of_neg (by simp [h]), wr_flat pt r, wr]
      unfold wrt
      rw [h, pw_nil, List.nil_append]
    · rw [List.filter_cons_of_pos (by simp [h]), List.map_cons, List.flatten_cons, wr_flat pt r, wr]
theorem wrt_le {pt : List Nat} : ∀ {ps : List Pn} {p : Pn}, p ∈ ps → (wrt pt p).length ≤ (wr pt ps).length
  | q :: r, p, h => by
    rw [wr, List.length_append]
    rcases List.mem_cons.mp h with z | z
    · rw [z]
      omega
    · have := wrt_le (pt := pt) z
      omega
end NM

set_option linter.all false
set_option maxRecDepth 100000
namespace NM
open WM
/-! ### how long what is written can be -/
theorem le_sumN : ∀ {f : List Nat} {x : Nat}, x ∈ f → x ≤ f.sum
  | a :: l, x, h => by
    rw [List.sum_cons]
    rcases List.mem_cons.mp h with z | z
    · omega
    · have := le_sumN z
      omega
theorem dot_ones : ∀ (f : List Nat), dot f (List.replicate f.length 1) = f.sum
  | [] => rfl
  | a :: l => by
    rw [List.length_cons, List.replicate_succ, dot, dot_ones l, List.sum_cons]
    omega
theorem mem_val {f : F} {m x : Nat} (hl : f.length = m + 1) (hx : x ∈ f) : x ≤ valF f (List.replicate m 1) := by
  cases f with
  | nil => cases hx
  | cons a l =>
    have e : l.length = m := by simpa using hl
    unfold valF
    rw [List.tail_cons, ← e, dot_ones]
    show x ≤ a + l.sum
    rcases List.mem_cons.mp hx with z | z
    · omega
    · have := le_sumN z
      omega
theorem dot_le {B c : Nat} : ∀ (f pt : List Nat), (∀ x ∈ f, x ≤ B) → (∀ x ∈ pt, x ≤ c) → dot f pt ≤ f.length * (B * c)
  | [], _, _, _ => by simp [dot]
  | _ :: _, [], _, _ => by simp [dot]
  | x :: xs, y :: ys, h, g => by
    have a := dot_le xs ys (fun z hz => h z (List.mem_cons_of_mem _ hz)) (fun z hz => g z (List.mem_cons_of_mem _ hz))
    have b : x * y ≤ B * c := Nat.mul_le_mul (h x List.mem_cons_self) (g y List.mem_cons_self)
    rw [dot, List.length_cons, Nat.succ_mul]
    omega
theorem wr_le {pt : List Nat} {k : Nat} : ∀ ps : List Pn, (∀ p ∈ ps, (wrt pt p).length ≤ k) → (wr pt ps).length ≤ ps.length * k
  | [], _ => by simp [wr]
  | p :: r, h => by
    have a := wr_le r fun q hq => h q (List.mem_cons_of_mem _ hq)
    have b := h p List.mem_cons_self
    rw [wr, List.length_append, List.length_cons, Nat.succ_mul]
    omega
theorem val_le3 {f : F} {pt : List Nat} {m : Nat} (hl : f.length = m + 1) (hm : m ≤ 3) (hf : ∀ x ∈ f, x ≤ 3) (hp : ∀ x ∈ pt, x ≤ 3) : valF f pt ≤ 30 := by
  cases f with
  | nil => simp at hl
  | cons a l =>
    have e : l.length = m := by simpa using hl
    have d := dot_le (B := 3) (c := 3) l pt (fun x hx => hf x (List.mem_cons_of_mem _ hx)) hp
    have h0 := hf a List.mem_cons_self
    have : l.length * (3 * 3) ≤ 3 * 9 := Nat.mul_le_mul (by omega) (by decide)
    unfold valF
    show a + dot l pt ≤ 30
    omega
theorem wrt_le3 {p : Pn} {pt : List Nat} {m : Nat} (hl : p.2.length = m + 1) (hm : m ≤ 3) (hw : p.1.length ≤ 12) (hf : ∀ x ∈ p.2, x ≤ 3) (hp : ∀ x ∈ pt, x ≤ 3) : (wrt pt p).length ≤ 360 := by
  have v := val_le3 hl hm hf hp
  have e : (wrt pt p).length = p.1.length * valF p.2 pt := pw_len _ _
  rw [e]
  exact Nat.mul_le_mul hw v
theorem meas_le {k : Nat} : ∀ ps : List Pn, (∀ p ∈ ps, measP p ≤ k) → meas ps ≤ ps.length * k
  | [], _ => by simp [meas]
  | p :: r, h => by
    have a := meas_le r fun q hq => h q (List.mem_cons_of_mem _ hq)
    have b := h p List.mem_cons_self
    have e : meas (p :: r) = measP p + meas r := by simp [meas]
    rw [e, List.length_cons, Nat.succ_mul]
    omega
theorem measP_le48 {p : Pn} {m : Nat} (hl : p.2.length = m + 1) (hw : p.1.length ≤ 12) (hf : ∀ x ∈ p.2, x ≤ 3) : measP p ≤ 48 := by
  have h0 : p.2.headD 0 ≤ 3 := by
    cases e : p.2 with
    | nil => rw [e] at hl; simp at hl
    | cons a l => exact hf a (by rw [e]; exact List.mem_cons_self)
  unfold measP
  have : p.2.headD 0 + (if isOpen p.2 = true then 1 else 0) ≤ 4 := by split <;> omega
  exact Nat.mul_le_mul hw this
/-- the numbers of a normal list are no greater than what it writes at ones -/
theorem num_le {m k : Nat} {ps : List Pn} (h : LenF m ps) (hk : (wr (List.replicate m 1) ps).length ≤ k) {p : Pn} (hp : p ∈ normL ps) {x : Nat} (hx : x ∈ p.2) : x ≤ k := by
  have nm := nm_normL h
  have np := nm.all p hp
  have n0 := List.length_pos_iff.mpr np.ne
  have a := mem_val np.len hx
  have b := wrt_le (pt := List.replicate m 1) hp
  rw [wr_normL h] at b
  have e : (wrt (List.replicate m 1) p).length = p.1.length * valF p.2 (List.replicate m 1) := pw_len _ _
  have c : valF p.2 (List.replicate m 1) ≤ p.1.length * valF p.2 (List.replicate m 1) := Nat.le_mul_of_pos_left _ n0
  omega
/-! ### lists that are spoilt -/
theorem nm_mem {m : Nat} {ps : List Pn} {p : Pn} (hp : p ∈ ps) (h : ¬ NormP m p) : ¬ Nm m ps := fun z => h (z.all p hp)
theorem norm_empty {m : Nat} {f : F} : ¬ NormP m ([], f) := fun z => z.ne rfl
theorem norm_zeros {m : Nat} {w : W} : ¬ NormP m (w, 0 :: List.replicate m 0) := fun z => by
  have a := (z.pow rfl).2
  obtain ⟨x, hx, h⟩ := isOpen_iff.mp a
  exact h (List.eq_of_mem_replicate hx)
/-! ### a fixed piece, a letter's power, a fixed piece -/
theorem prim_one (c : Nat) : Prim [c] := ⟨by simp, fun d h1 h2 _ => by
  have := Nat.le_of_dvd (by simp) h2
  simp at this ⊢
  omega⟩
def longP (m a b c i j : Nat) : List Pn := [(List.replicate i a, one1 m), ([b], 0 :: 1 :: List.replicate (m - 1) 0), (List.replicate j c, one1 m)]
theorem nm_long {m a b c i j : Nat} (hm : 1 ≤ m) (hab : a ≠ b) (hi : 0 < i) (hj : 0 < j) : Nm m (longP m a b c i j) := by
  have l2 : (0 :: 1 :: List.replicate (m - 1) 0).length = m + 1 := by simp; omega
  refine ⟨fun p hp => ?_, fun k p q hk hk' => ?_⟩
  · rcases List.mem_cons.mp hp with z | z
    · rw [z]
      exact fixP_norm (fun y => by have := congrArg List.length y; simp at this; omega)
    rcases List.mem_cons.mp z with z | z
    · rw [z]
      exact (pow_norm (prim_one b) l2 rfl rfl).1
    · rw [List.mem_singleton.mp z]
      exact fixP_norm (fun y => by have := congrArg List.length y; simp at this; omega)
  · match k, hk, hk' with
    | 0, hk, hk' =>
      cases hk
      cases hk'
      refine ⟨fun _ => ⟨rfl, fun y => hab ?_⟩, fun z => by cases z⟩
      have e1 : (List.replicate i a).getLast? = some a := by
        rw [List.getLast?_eq_getElem?, List.length_replicate, List.getElem?_replicate, if_pos (by omega)]
      have y' : (List.replicate i a).getLast? = [b].getLast? := y
      rw [e1] at y'
      simpa using y'
    | 1, hk, hk' =>
      cases hk
      cases hk'
      exact ⟨fun z => (by cases z), fun _ z => (by cases z)⟩
    | 2, hk, hk' => simp [longP] at hk'
    | (k + 3), hk, hk' => simp [longP] at hk
theorem meas_long {m a b c i j : Nat} (hm : 1 ≤ m) : meas (longP m a b c i j) = i + 1 + j := by
  have h1 : ∀ (w : W), measP (w, one1 m) = w.length := fun w => measP_fix w m
  have h2 : measP ([b], 0 :: 1 :: List.replicate (m - 1) 0) = 1 := rfl
  unfold longP meas
  simp [h1, h2]
  omega
end NM

set_option linter.all false
set_option maxRecDepth 100000
/-! two normal lists that write the same word at enough points are the same -/
namespace NM
open WM
theorem gcd_last {a b : Nat} (ha : 0 < a) (hb : 0 < b) : (a - 1) % Nat.gcd a b = (b - 1) % Nat.gcd a b := by
  have g0 : 0 < Nat.gcd a b := Nat.gcd_pos_of_pos_left _ ha
  have key : ∀ c, 0 < c → Nat.gcd a b ∣ c → (c - 1) % Nat.gcd a b = Nat.gcd a b - 1 := fun c hc hd => by
    obtain ⟨k, rfl⟩ := hd
    cases k with
    | zero => simp at hc
    | succ k =>
      rw [Nat.mul_succ, show Nat.gcd a b * k + Nat.gcd a b - 1 = Nat.gcd a b * k + (Nat.gcd a b - 1) by omega, Nat.mul_add_mod, Nat.mod_eq_of_lt (by omega)]
  rw [key a ha (Nat.gcd_dvd_left _ _), key b hb (Nat.gcd_dvd_right _ _)]
theorem app_get {α : Type} {A B : List α} {i : Nat} (h : i < A.length) : (A ++ B)[i]? = A[i]? := List.getElem?_append_left h
/-- letters ahead of a power that go on with another power could have been moved -/
theorem turn_last {u v x A B : W} {i j : Nat} (hu : u ≠ []) (hv : v ≠ []) (hx : x ≠ []) (h : pw u i ++ A = x ++ (pw v j ++ B)) (hi : x.length + u.length + v.length ≤ u.length * i) (hj : u.length + v.length ≤ v.length * j) : x.getLast? = v.getLast? := by
  have u0 := List.length_pos_iff.mpr hu
  have v0 := List.length_pos_iff.mpr hv
  have x0 := List.length_pos_iff.mpr hx
  have lu : (pw u i).length = u.length * i := pw_len _ _
  have lv : (pw v j).length = v.length * j := pw_len _ _
  have left : ∀ k, k < x.length + u.length + v.length → (x ++ (pw v j ++ B))[k]? = u[k % u.length]? := fun k hk => by
    rw [← h, app_get (by omega), pw_get hu i k (by omega)]
  have right : ∀ k, k < u.length + v.length → (x ++ (pw v j ++ B))[x.length + k]? = (pw v j)[k]? := fun k hk => by
    rw [List.getElem?_append_right (by omega), show x.length + k - x.length = k by omega, app_get (by omega)]
  have lz : ((pw v j).take (u.length + v.length)).length = u.length + v.length := by rw [List.length_take]; omega
  have zget : ∀ k, k < u.length + v.length → ((pw v j).take (u.length + v.length))[k]? = (pw v j)[k]? := fun k hk => List.getElem?_take_of_lt hk
  have p1 : Per v.length ((pw v j).take (u.length + v.length)) := per_take (pw_per hv j)
  have p2 : Per u.length ((pw v j).take (u.length + v.length)) := fun k hk => by
    rw [lz] at hk
    rw [zget k (by omega), zget (k + u.length) hk, ← right k (by omega), ← right (k + u.length) hk, left _ (by omega), left _ (by omega)]
    congr 1
    rw [← Nat.add_assoc, Nat.add_mod_right]
  have pd := per_gcd p2 p1 (by rw [lz]; exact Nat.le_refl _)
  have d0 : 0 < Nat.gcd u.length v.length := Nat.gcd_pos_of_pos_left _ u0
  have a1 := per_at d0 pd (i := u.length - 1) (by rw [lz]; omega)
  have a2 := per_at d0 pd (i := v.length - 1) (by rw [lz]; omega)
  rw [gcd_last u0 v0, ← a2] at a1
  have e1 : x.getLast? = (x ++ (pw v j ++ B))[x.length - 1]? := by
    rw [List.getLast?_eq_getElem?, app_get (by omega)]
  have e2 : (x ++ (pw v j ++ B))[x.length - 1]? = (x ++ (pw v j ++ B))[x.length + (u.length - 1)]? := by
    rw [left _ (by omega), left _ (by omega)]
    congr 1
    rw [show x.length + (u.length - 1) = x.length - 1 + u.length by omega, Nat.add_mod_right]
  have e3 : (pw v j)[v.length - 1]? = v.getLast? := by
    rw [pw_get hv j _ (by omega), Nat.mod_eq_of_lt (by omega), List.getLast?_eq_getElem?]
  rw [e1, e2, right _ (by omega), ← zget _ (by omega), a1, zget _ (by omega), e3]
/-- two powers of primitive words that begin alike are of one word -/
theorem pow_same {u v A B : W} {i j : Nat} (hu : Prim u) (hv : Prim v) (h : pw u i ++ A = pw v j ++ B) (hi : u.length + v.length ≤ u.length * i) (hj : u.length + v.length ≤ v.length * j) : u = v := by
  have u0 := List.length_pos_iff.mpr hu.1
  have v0 := List.length_pos_iff.mpr hv.1
  have lu : (pw u i).length = u.length * i := pw_len _ _
  have lv : (pw v j).length = v.length * j := pw_len _ _
  have ez : (pw u i).take (u.length + v.length) = (pw v j).take (u.length + v.length) := by
    have : (pw u i ++ A).take (u.length + v.length) = (pw v j ++ B).take (u.length + v.length) := by rw [h]
    rw [List.take_append_of_le_length (by omega), List.take_append_of_le_length (by omega)] at this
    exact this
  have lz : ((pw u i).take (u.length + v.length)).length = u.length + v.length := by rw [List.length_take]; omega
  have p1 : Per u.length ((pw u i).take (u.length + v.length)) := per_take (pw_per hu.1 i)
  have p2 : Per v.length ((pw u i).take (u.length + v.length)) := by rw [ez]; exact per_take (pw_per hv.1 j)
  have pd := per_gcd p1 p2 (by rw [lz]; exact Nat.le_refl _)
  have tu : ((pw u i).take (u.length + v.length)).take u.length = u := by
    rw [List.take_take, Nat.min_eq_left (by omega)]
    refine List.ext_getElem? fun k => ?_
    by_cases hk : k < u.length
    · rw [List.getElem?_take_of_lt hk, pw_get hu.1 i k (by omega), Nat.mod_eq_of_lt hk]
    · rw [List.getElem?_eq_none (by rw [List.length_take]; omega), List.getElem?_eq_none (by omega)]
  have tv : ((pw u i).take (u.length + v.length)).take v.length = v := by
    rw [ez, List.take_take, Nat.min_eq_left (by omega)]
    refine List.ext_getElem? fun k => ?_
    by_cases hk : k < v.length
    · rw [List.getElem?_take_of_lt hk, pw_get hv.1 j k (by omega), Nat.mod_eq_of_lt hk]
    · rw [List.getElem?_eq_none (by rw [List.length_take]; omega), List.getElem?_eq_none (by omega)]
  have d0 : 0 < Nat.gcd u.length v.length := Nat.gcd_pos_of_pos_left _ u0
  have pu : Per (Nat.gcd u.length v.length) u := by
    have := per_take (k := u.length) pd
    rw [tu] at this
    exact this
  have pv : Per (Nat.gcd u.length v.length) v := by
    have := per_take (k := v.length) pd
    rw [tv] at this
    exact this
  have du := hu.2 _ d0 (Nat.gcd_dvd_left _ _) pu
  have dv := hv.2 _ d0 (Nat.gcd_dvd_right _ _) pv
  have el : u.length = v.length := du.symm.trans dv
  exact (tu.symm.trans (congrArg (fun n => ((pw u i).take (u.length + v.length)).take n) el)).trans tv
/-- a point of numbers of at least N -/
def Far (m N : Nat) (pt : List Nat) : Prop := pt.length = m ∧ ∀ x ∈ pt, N ≤ x
theorem dot_far {N : Nat} : ∀ (f pt : List Nat), f.length = pt.length → (∃ x ∈ f, x ≠ 0) → (∀ x ∈ pt, N ≤ x) → N ≤ dot f pt
  | [], _, _, h, _ => by obtain ⟨x, hx, _⟩ := h; cases hx
  | _ :: _, [], hl, _, _ => by simp at hl
  | a :: f, b :: pt, hl, h, hp => by
    rw [dot]
    by_cases z : a = 0
    · have : ∃ x ∈ f, x ≠ 0 := by
        obtain ⟨x, hx, x0⟩ := h
        rcases List.mem_cons.mp hx with y | y
        · exact absurd (y.trans z) x0
        · exact ⟨x, y, x0⟩
      have := dot_far f pt (by simpa using hl) this fun x hx => hp x (List.mem_cons_of_mem _ hx)
      omega
    · have := hp b List.mem_cons_self
      have : b ≤ a * b := Nat.le_mul_of_pos_left _ (by omega)
      omega
theorem val_far {m N : Nat} {f : F} {pt : List Nat} (hl : f.length = m + 1) (ho : isOpen f = true) (hp : Far m N pt) : N ≤ valF f pt := by
  have := dot_far f.tail pt (by rw [List.length_tail, hl, hp.1]; rfl) (isOpen_iff.mp ho) hp.2
  unfold valF
  omega
def tot (ps : List Pn) : Nat := (ps.map fun p => p.1.length).sum
theorem tot_cons (p : Pn) (r : List Pn) : tot (p :: r) = p.1.length + tot r := by simp [tot]
theorem Nm.tail {m : Nat} {p : Pn} {r : List Pn} (h : Nm m (p :: r)) : Nm m r := ⟨fun q hq => h.all q (List.mem_cons_of_mem _ hq), fun i a b ha hb => h.adj (i + 1) a b ha hb⟩
theorem Nm.head {m : Nat} {p : Pn} {r : List Pn} (h : Nm m (p :: r)) : NormP m p := h.all p List.mem_cons_self
theorem Nm.adj0 {m : Nat} {p q : Pn} {r : List Pn} (h : Nm m (p :: q :: r)) : Adj p q := h.adj 0 p q rfl rfl
/-- what does not begin with u does not begin with a great power of u -/
theorem no_begin {m N k : Nat} {u R : W} {pt : List Nat} (hu : Prim u) : ∀ {r : List Pn}, Nm m r → (∀ q, r.head? = some q → isPow q = true → q.1 ≠ u) → Far m N pt → u.length + tot r + 1 ≤ N → N ≤ k → wr pt r = pw u k ++ R → False
  | [], _, _, _, _, hk, e => by
    have u0 := List.length_pos_iff.mpr hu.1
    have := congrArg List.length e
    rw [List.length_append, pw_len, wr] at this
    have : k ≤ u.length * k := Nat.le_mul_of_pos_left _ u0
    simp at *
    omega
  | q :: t, nm, hq, far, hN, hk, e => by
    have u0 := List.length_pos_iff.mpr hu.1
    have uk : k ≤ u.length * k := Nat.le_mul_of_pos_left _ u0
    have nq := nm.head
    have q0 := List.length_pos_iff.mpr nq.ne
    rw [tot_cons] at hN
    rw [wr] at e
    cases ep : isPow q with
    | true =>
      obtain ⟨pr, op⟩ := nq.pow ep
      have v := val_far nq.len op far
      have qv : valF q.2 pt ≤ q.1.length * valF q.2 pt := Nat.le_mul_of_pos_left _ q0
      exact hq q rfl ep (pow_same pr hu e (by omega) (by omega))
    | false =>
      have ef : wrt pt q = q.1 := by
        have := nq.fix ep
        unfold wrt
        rw [this, val_one, pw_one]
      rw [ef] at e
      match t, nm, e, hN with
      | [], nm, e, hN =>
        have := congrArg List.length e
        rw [wr, List.append_nil, List.length_append, pw_len] at this
        omega
      | q2 :: t2, nm, e, hN =>
        have ad := nm.adj0.fix ep
        have n2 := nm.tail.head
        obtain ⟨_, op⟩ := n2.pow ad.1
        have v := val_far n2.len op far
        have q20 := List.length_pos_iff.mpr n2.ne
        have qv : valF q2.2 pt ≤ q2.1.length * valF q2.2 pt := Nat.le_mul_of_pos_left _ q20
        rw [tot_cons] at hN
        rw [wr] at e
        have e' : pw u k ++ R = q.1 ++ (pw q2.1 (valF q2.2 pt) ++ wr pt t2) := e.symm
        exact ad.2 (turn_last hu.1 n2.ne nq.ne e' (by omega) (by omega))
/-- points that tell forms apart, with great numbers -/
structure Rich (m : Nat) (Sp : List Nat → Prop) : Prop where
  far : ∀ N, ∃ pt, Sp pt ∧ Far m N pt
  part : ∀ (N : Nat) (f g : F), f.length = m + 1 → g.length = m + 1 → f.headD 0 = 0 → g.headD 0 = 0 → f ≠ g → ∃ pt, Sp pt ∧ Far m N pt ∧ (valF f pt + N ≤ valF g pt ∨ valF g pt + N ≤ valF f pt)
theorem uni {m : Nat} {Sp : List Nat → Prop} (hS : Rich m Sp) : ∀ {a b : List Pn}, Nm m a → Nm m b → (∀ pt, Sp pt → wr pt a = wr pt b) → a = b
  | [], [], _, _, _ => rfl
  | [], q :: t, _, nb, e => by
    exfalso
    obtain ⟨pt, sp, far⟩ := hS.far 1
    have := congrArg List.length (e pt sp)
    have nq := nb.head
    have q0 := List.length_pos_iff.mpr nq.ne
    have v : 1 ≤ valF q.2 pt := by
      cases ep : isPow q with
      | true => exact val_far nq.len (nq.pow ep).2 far
      | false => rw [nq.fix ep, val_one]; exact Nat.le_refl _
    have lw : (wrt pt q).length = q.1.length * valF q.2 pt := pw_len _ _
    have : 0 < q.1.length * valF q.2 pt := Nat.mul_pos q0 v
    have h := e pt sp
    rw [wr, wr] at h
    have h2 := congrArg List.length h
    rw [List.length_append] at h2
    simp only [List.length_nil] at h2
    omega
  | p :: r, [], na, _, e => by
    exfalso
    obtain ⟨pt, sp, far⟩ := hS.far 1
    have := congrArg List.length (e pt sp)
    have nq := na.head
    have q0 := List.length_pos_iff.mpr nq.ne
    have v : 1 ≤ valF p.2 pt := by
      cases ep : isPow p with
      | true => exact val_far nq.len (nq.pow ep).2 far
      | false => rw [nq.fix ep, val_one]; exact Nat.le_refl _
    have lw : (wrt pt p).length = p.1.length * valF p.2 pt := pw_len _ _
    have : 0 < p.1.length * valF p.2 pt := Nat.mul_pos q0 v
    have h := e pt sp
    rw [wr, wr] at h
    have h2 := congrArg List.length h
    rw [List.length_append] at h2
    simp only [List.length_nil] at h2
    omega
  | p :: r, q :: t, na, nb, e => by
    have np := na.head
    have nq := nb.head
    have p0 := List.length_pos_iff.mpr np.ne
    have q0 := List.length_pos_iff.mpr nq.ne
    have one : ∀ {c : Pn}, NormP m c → isPow c = false → ∀ pt, wrt pt c = c.1 := fun {c} nc ec pt => by
      unfold wrt
      rw [nc.fix ec, val_one, pw_one]
    -- a power against a fixed piece
    have mixed : ∀ {c d : Pn} {l k : List Pn}, Nm m (c :: l) → Nm m (d :: k) → isPow c = true → isPow d = false → (∀ pt, Sp pt → wr pt (c :: l) = wr pt (d :: k)) → False := fun {c d l k} nc nd ec ed he => by
      obtain ⟨pt, sp, far⟩ := hS.far (c.1.length + tot (d :: k) + 1)
      obtain ⟨prc, opc⟩ := nc.head.pow ec
      refine no_begin (R := wr pt l) (k := valF c.2 pt) prc nd (fun z hz hp => ?_) far (Nat.le_refl _) (val_far nc.head.len opc far) (he pt sp).symm
      cases hz
      rw [ed] at hp
      cases hp
    -- two fixed pieces, the one shorter
    have shorter : ∀ {c d : Pn} {l k : List Pn}, Nm m (c :: l) → Nm m (d :: k) → isPow c = false → isPow d = false → c.1.length < d.1.length → (∀ pt, Sp pt → wr pt (c :: l) = wr pt (d :: k)) → False := fun {c d l k} nc nd ec ed hl he => by
      have ex : ∀ pt, Sp pt → d.1 = c.1 ++ d.1.drop c.1.length ∧ wr pt l = d.1.drop c.1.length ++ wr pt k := fun pt sp => by
        have := he pt sp
        rw [wr, wr, one nc.head ec, one nd.head ed] at this
        have h1 : (c.1 ++ wr pt l).take c.1.length = (d.1 ++ wr pt k).take c.1.length := by rw [this]
        rw [List.take_left, List.take_append_of_le_length (by omega)] at h1
        have sp' : d.1 = c.1 ++ d.1.drop c.1.length := by
          conv => lhs; rw [← List.take_append_drop c.1.length d.1, ← h1]
        refine ⟨sp', ?_⟩
        rw [sp', List.append_assoc] at this
        exact List.append_cancel_left this
      have xne : d.1.drop c.1.length ≠ [] := fun z => by
        have := congrArg List.length z
        rw [List.length_drop, List.length_nil] at this
        omega
      match l, nc, ex with
      | [], _, ex =>
        obtain ⟨pt, sp, _⟩ := hS.far 0
        have := (ex pt sp).2
        rw [wr] at this
        exact xne (List.append_eq_nil_iff.mp this.symm).1
      | y :: l', nc, ex =>
        have ad := nc.adj0.fix ec
        have ny := nc.tail.head
        obtain ⟨pry, opy⟩ := ny.pow ad.1
        obtain ⟨pt, sp, far⟩ := hS.far (y.1.length + tot ((d.1.drop c.1.length, one1 m) :: k) + 1)
        have nx : Nm m ((d.1.drop c.1.length, one1 m) :: k) := by
          refine ⟨fun z hz => ?_, fun i a b ha hb => ?_⟩
          · rcases List.mem_cons.mp hz with w | w
            · rw [w]; exact fixP_norm xne
            · exact nd.all z (List.mem_cons_of_mem _ w)
          · cases i with
            | succ i => exact nd.adj (i + 1) a b ha hb
            | zero =>
              cases ha
              have hb' : (d :: k)[0 + 1]? = some b := hb
              have := (nd.adj 0 d b rfl hb').fix ed
              refine ⟨fun _ => ⟨this.1, fun w => this.2 ?_⟩, fun z => by cases z⟩
              have e1 := (ex pt sp).1
              have w' : (d.1.drop c.1.length).getLast? = b.1.getLast? := w
              rw [← w']
              conv => lhs; rw [e1]
              rw [List.getLast?_append]
              cases hz : (d.1.drop c.1.length).getLast? with
              | none => exact absurd (List.getLast?_eq_none_iff.mp hz) xne
              | some c => rfl
        refine no_begin (R := wr pt l') (k := valF y.2 pt) pry nx (fun z hz hp => ?_) far (Nat.le_refl _) (val_far ny.len opy far) ?_
        · cases hz
          cases hp
        · have := (ex pt sp).2
          rw [wr] at this
          rw [wr, one (c := (d.1.drop c.1.length, one1 m)) (fixP_norm xne) rfl]
          exact this.symm
    have same : p = q → p :: r = q :: t := fun e1 => by
      subst e1
      have : r = t := uni hS na.tail nb.tail fun pt sp => by
        have := e pt sp
        rw [wr, wr] at this
        exact List.append_cancel_left this
      rw [this]
    cases ep : isPow p with
    | true =>
      cases eq' : isPow q with
      | false => exact (mixed na nb ep eq' e).elim
      | true =>
        obtain ⟨prp, opp⟩ := np.pow ep
        obtain ⟨prq, opq⟩ := nq.pow eq'
        have ew : p.1 = q.1 := by
          obtain ⟨pt, sp, far⟩ := hS.far (p.1.length + q.1.length)
          have v1 := val_far np.len opp far
          have v2 := val_far nq.len opq far
          have m1 : valF p.2 pt ≤ p.1.length * valF p.2 pt := Nat.le_mul_of_pos_left _ p0
          have m2 : valF q.2 pt ≤ q.1.length * valF q.2 pt := Nat.le_mul_of_pos_left _ q0
          have h := e pt sp
          rw [wr, wr] at h
          exact pow_same prp prq h (by omega) (by omega)
        by_cases ef : p.2 = q.2
        · exact same (Prod.ext ew ef)
        · exfalso
          have h0 : p.2.headD 0 = 0 := of_decide_eq_true ep
          have h1 : q.2.headD 0 = 0 := of_decide_eq_true eq'
          obtain ⟨pt, sp, far, hd⟩ := hS.part (p.1.length + tot r + tot t + 1) p.2 q.2 np.len nq.len h0 h1 ef
          have h := e pt sp
          rw [wr, wr] at h
          unfold wrt at h
          rcases hd with hd | hd
          · have s : pw q.1 (valF q.2 pt) = pw p.1 (valF p.2 pt) ++ pw p.1 (valF q.2 pt - valF p.2 pt) := by rw [← pw_add, ew]; congr 1; omega
            rw [s, List.append_assoc] at h
            refine no_begin (r := r) prp na.tail (fun z hz hp => ?_) far (by omega) (show _ ≤ valF q.2 pt - valF p.2 pt by omega) (List.append_cancel_left h)
            match r, na, hz with
            | z' :: r', na, hz =>
              cases hz
              exact fun y => na.adj0.pow ep hp y.symm
          · have s : pw p.1 (valF p.2 pt) = pw q.1 (valF q.2 pt) ++ pw q.1 (valF p.2 pt - valF q.2 pt) := by rw [← pw_add, ew]; congr 1; omega
            rw [s, List.append_assoc] at h
            refine no_begin (r := t) prq nb.tail (fun z hz hp => ?_) far (by rw [← ew]; omega) (show _ ≤ valF p.2 pt - valF q.2 pt by omega) (List.append_cancel_left h).symm
            match t, nb, hz with
            | z' :: r', nb, hz =>
              cases hz
              exact fun y => nb.adj0.pow eq' hp y.symm
    | false =>
      cases eq' : isPow q with
      | true => exact (mixed nb na eq' ep fun pt sp => (e pt sp).symm).elim
      | false =>
        have h1 := np.fix ep
        have h2 := nq.fix eq'
        by_cases hl : p.1.length < q.1.length
        · exact (shorter na nb ep eq' hl e).elim
        · by_cases hl2 : q.1.length < p.1.length
          · exact (shorter nb na eq' ep hl2 fun pt sp => (e pt sp).symm).elim
          · obtain ⟨pt, sp, _⟩ := hS.far 0
            have h := e pt sp
            rw [wr, wr, one np ep, one nq eq'] at h
            have := (List.append_inj h (by omega)).1
            exact same (Prod.ext this (h1.trans h2.symm))
/-! ### enough points -/
theorem dot_split : ∀ (f pt : List Nat) (j x y : Nat), f[j]? = some x → pt[j]? = some y → x * y ≤ dot f pt
  | a :: f, b :: pt, 0, x, y, hf, hp => by
    cases hf
    cases hp
    rw [dot]
    omega
  | a :: f, b :: pt, j + 1, x, y, hf, hp => by
    have := dot_split f pt j x y hf hp
    rw [dot]
    omega
  | [], _, _, _, _, hf, _ => by simp at hf
  | _ :: _, [], _, _, _, _, hp => by simp at hp
theorem dot_rest {M : Nat} : ∀ (f pt : List Nat) (j x y : Nat), f[j]? = some x → pt[j]? = some y → (∀ i z, i ≠ j → pt[i]? = some z → z ≤ M) → dot f pt ≤ x * y + f.sum * M
  | a :: f, b :: pt, 0, x, y, hf, hp, h => by
    cases hf
    cases hp
    have : dot f pt ≤ f.sum * M := by
      have key : ∀ (f pt : List Nat), (∀ z ∈ pt, z ≤ M) → dot f pt ≤ f.sum * M := fun f => by
        induction f with
        | nil => intro pt _; simp [dot]
        | cons a f ih =>
          intro pt hp
          cases pt with
          | nil => simp [dot]
          | cons b pt =>
            have h1 := ih pt fun z hz => hp z (List.mem_cons_of_mem _ hz)
            have h2 : a * b ≤ a * M := Nat.mul_le_mul_left _ (hp b List.mem_cons_self)
            rw [dot, List.sum_cons, Nat.add_mul]
            omega
      refine key f pt fun z hz => ?_
      obtain ⟨i, hi⟩ := List.getElem?_of_mem hz
      exact h (i + 1) z (by omega) hi
    rw [dot, List.sum_cons, Nat.add_mul]
    omega
  | a :: f, b :: pt, j + 1, x, y, hf, hp, h => by
    have h1 := dot_rest f pt j x y hf hp fun i z hi hz => h (i + 1) z (by omega) hz
    have h2 : a * b ≤ a * M := Nat.mul_le_mul_left _ (h 0 b (by omega) rfl)
    rw [dot, List.sum_cons, Nat.add_mul]
    omega
  | [], _, _, _, _, hf, _, _ => by simp at hf
  | _ :: _, [], _, _, _, _, hp, _ => by simp at hp
theorem head0 {f : F} {m : Nat} (hl : f.length = m + 1) (h : f.headD 0 = 0) : f = 0 :: f.tail := by
  cases f with
  | nil => simp at hl
  | cons a f =>
    have : a = 0 := h
    rw [this]
    rfl
theorem rich_of {m : Nat} {Sp : List Nat → Prop} (h0 : ∀ N, ∃ pt, Sp pt ∧ Far m N pt) (h : ∀ N, ∃ M, ∀ j K, j < m → ∃ pt, Sp pt ∧ Far m N pt ∧ (∀ i z, i ≠ j → pt[i]? = some z → z ≤ M) ∧ ∃ y, pt[j]? = some y ∧ K ≤ y) : Rich m Sp := by
  refine ⟨h0, fun N f g lf lg hf hg ne => ?_⟩
  have ef := head0 lf hf
  have eg := head0 lg hg
  have tne : f.tail ≠ g.tail := fun z => ne (by rw [ef, eg, z])
  have lt1 : f.tail.length = m := by rw [List.length_tail, lf]; rfl
  have lt2 : g.tail.length = m := by rw [List.length_tail, lg]; rfl
  have hv : ∀ (f : F) (pt : List Nat), f.headD 0 = 0 → valF f pt = dot f.tail pt := fun f pt z => by unfold valF; rw [z, Nat.zero_add]
  obtain ⟨j, hj⟩ : ∃ j, f.tail[j]? ≠ g.tail[j]? := Classical.byContradiction fun z => tne (List.ext_getElem? fun i => Classical.byContradiction fun y => z ⟨i, y⟩)
  have jm : j < m := Classical.byContradiction fun z => hj (by rw [List.getElem?_eq_none (by omega), List.getElem?_eq_none (by omega)])
  obtain ⟨x1, e1⟩ : ∃ x, f.tail[j]? = some x := ⟨_, List.getElem?_eq_getElem (by omega)⟩
  obtain ⟨x2, e2⟩ : ∃ x, g.tail[j]? = some x := ⟨_, List.getElem?_eq_getElem (by omega)⟩
  have xne : x1 ≠ x2 := fun z => hj (by rw [e1, e2, z])
  obtain ⟨M, hM⟩ := h N
  obtain ⟨pt, sp, far, small, y, hy, ky⟩ := hM j (f.tail.sum * M + g.tail.sum * M + N) jm
  refine ⟨pt, sp, far, ?_⟩
  rw [hv f pt hf, hv g pt hg]
  have a1 := dot_split f.tail pt j x1 y e1 hy
  have a2 := dot_split g.tail pt j x2 y e2 hy
  have b1 := dot_rest f.tail pt j x1 y e1 hy small
  have b2 := dot_rest g.tail pt j x2 y e2 hy small
  rcases Nat.lt_or_gt_of_ne xne with z | z
  · refine .inl ?_
    have : (x1 + 1) * y ≤ x2 * y := Nat.mul_le_mul_right _ z
    rw [Nat.add_mul, Nat.one_mul] at this
    omega
  · refine .inr ?_
    have : (x2 + 1) * y ≤ x1 * y := Nat.mul_le_mul_right _ z
    rw [Nat.add_mul, Nat.one_mul] at this
    omega
/-- all points -/
def AllPt (m : Nat) (pt : List Nat) : Prop := pt.length = m
theorem rich_all (m : Nat) : Rich m (AllPt m) := by
  refine rich_of (fun N => ⟨List.replicate m N, by simp [AllPt], by simp [Far]⟩) fun N => ⟨N, fun j K hj => ⟨(List.replicate m N).set j (N + K), by simp [AllPt], ⟨by simp, fun x hx => ?_⟩, fun i z hi hz => ?_, N + K, ?_, by omega⟩⟩
  · rcases List.mem_or_eq_of_mem_set hx with w | w
    · rw [List.eq_of_mem_replicate w]; exact Nat.le_refl _
    · rw [w]; omega
  · rw [List.getElem?_set_ne (Ne.symm hi)] at hz
    have := List.mem_of_getElem? hz
    rw [List.eq_of_mem_replicate this]
    exact Nat.le_refl _
  · rw [List.getElem?_set_self (by simpa using hj)]
/-- lists that write the same words have one normal list -/
theorem norm_same {m : Nat} {a b : List Pn} (ha : LenF m a) (hb : LenF m b) (h : ∀ pt, pt.length = m → wr pt a = wr pt b) : normL a = normL b :=
  uni (rich_all m) (nm_normL ha) (nm_normL hb) fun pt sp => by rw [wr_normL ha, wr_normL hb]; exact h pt sp
end NM

set_option Elab.async false
set_option linter.all false
set_option maxRecDepth 100000
set_option maxHeartbeats 4000000
namespace K41
open PySem PySem.Spec PyProof.Rows L2 CK SX NM
/-! ### open texts -/
/-- the attributes, as they are set -/
def OF (l : Addr) (m : Nat) : List (Str × V) := putF "_many" (V.int (m : Nat)) (putF "_pieces" (V.ref l) [])
theorem ne_pm : ¬ (("_pieces" : Str) = "_many") := by decide +kernel
theorem of_p (l : Addr) (m : Nat) : (OF l m).lookup ("_pieces" : Str) = some (V.ref l) := by
  unfold OF
  rw [lookup_putF, if_neg ne_pm, lookup_putF, if_pos rfl]
theorem of_m (l : Addr) (m : Nat) : (OF l m).lookup ("_many" : Str) = some (V.int (m : Nat)) := by
  unfold OF
  rw [lookup_putF, if_pos rfl]
theorem of_no (l : Addr) (m : Nat) {x : Str} (h1 : ¬ x = "_pieces") (h2 : ¬ x = "_many") : (OF l m).lookup x = none := by
  unfold OF
  rw [lookup_putF, if_neg h2, lookup_putF, if_neg h1]
  rfl
/-- an open text at p, its list of pieces at l -/
structure OTl (C : Addr) (H : Hp) (p l : Addr) (m : Nat) (ps : List Pn) : Prop where
  at_ : ∃ dx, H p = some (.ins C dx (OF l m))
  gl : GL H m l ps
def OT (C : Addr) (H : Hp) (p : Addr) (m : Nat) (ps : List Pn) : Prop := ∃ l, OTl C H p l m ps
theorem OTl.same {C : Addr} {H H' : Hp} {p l : Addr} {m : Nat} {ps : List Pn} (h : OTl C H p l m ps) (s : Same H H') : OTl C H' p l m ps := by
  obtain ⟨⟨dx, e⟩, g⟩ := h
  exact ⟨⟨dx, s _ _ e⟩, g.same s⟩
theorem OT.same {C : Addr} {H H' : Hp} {p : Addr} {m : Nat} {ps : List Pn} (h : OT C H p m ps) (s : Same H H') : OT C H' p m ps := by
  obtain ⟨l, h⟩ := h
  exact ⟨l, h.same s⟩
theorem GL.ins {H : Hp} {m : Nat} {l p C dx : Addr} {ps : List Pn} {fs gs : List (Str × V)} (h : GL H m l ps) (hp : H p = some (.ins C dx fs)) : GL (upd H p (.ins C dx gs)) m l ps := by
  obtain ⟨⟨vs, hl, hv⟩, a, b, c, d, e⟩ := h
  refine ⟨⟨vs, ?_, hv.mono fun a xs e => ?_⟩, a, b, c, d, e⟩
  · rw [upd_ne (fun z => by rw [z, hp] at hl; cases hl)]
    exact hl
  · rw [upd_ne (fun z => by rw [z, hp] at e; cases e)]
    exact e
/-- what is written at ones is not too long -/
def Wl (m : Nat) (ps : List Pn) : Prop := (wr (List.replicate m 1) ps).length < 2 ^ 900
theorem bf_normL {m : Nat} {ps : List Pn} (h : LenF m ps) (hw : Wl m ps) : ∀ p ∈ normL ps, Bf p.2 := fun p hp n hn => Nat.lt_of_le_of_lt (num_le h (Nat.le_refl _) hp hn) hw
theorem wl_normL {m : Nat} {ps : List Pn} (h : LenF m ps) (hw : Wl m ps) : Wl m (normL ps) := by
  unfold Wl
  rw [wr_normL h]
  exact hw
section
variable {P : Program} {w : World} {K : PySem.W.Frag} {mg : Str → Option Value} {base : Heap} {C : Addr}
def sp_init (C : Addr) : Sp := fun vs H Q _ => ∃ (p dx l : Addr) (m : Nat) (ps : List Pn), vs = [.ref p, .int m, .ref l] ∧ H p = some (.ins C dx []) ∧ m ≤ 3 ∧ GL H m l ps ∧ meas ps ≤ 2000 ∧ Wl m ps ∧
  ∀ r H', SameX p H H' → H r = none → OTl C H' p r m (normL ps) → Q .non H'
theorem n_OpenText (T : Txt K mg C) : C8.Mak P w K mg base 7 "OpenText" C (sp_init C) [] := by
  refine makF T.k_OpenText T.d_OpenText___init__ sc_OpenText___init__ (fun vs H Q E h => ?_) (fun f cdv A outer s H vs Q E hr h => ?_)
  · obtain ⟨_, _, _, _, _, rfl, _⟩ := h; rfl
  · obtain ⟨p, dx, l, m, ps, rfl, hp, m3, g, hme, hw, q⟩ := h
    have cl := T.k_OpenText.ins.cl
    refine ⟨_, (pss_cons (ps_fld (pv 0) (C8.pe_c (c_normal T) hr (by decide) (by rfl) (pa_cons (pv 1) (pa_cons (pv 2) pa_nil))) rfl)
    (pss_one (ps_fld (pv 0) (pv 1) rfl))), ?_⟩
    refine ⟨_, rfl, _, rfl, m, l, ps, rfl, m3, g, hme, fun r H1 s1 n1 pl => ?_⟩
    have hp1 := s1 _ _ hp
    have hp2 : (upd H1 p (.ins C dx (putF "_pieces" (V.ref r) []))) p = some (.ins C dx (putF "_pieces" (V.ref r) [])) := upd_same
    refine ⟨_, rfl, p, C, dx, _, rfl, hp1, cl, T.f_pieces, by show 0 < 1000; decide, ?_⟩
    refine ⟨_, rfl, _, rfl, p, C, dx, _, rfl, hp2, cl, T.f_many, by show 1 < 1000; decide, ?_⟩
    rw [upd_upd]
    have nm := nm_normL g.len
    have mle := meas_normL g.len
    have sm := nm.small (B := 2000) (by omega)
    have gr : GL H1 m r (normL ps) := ⟨pl, nm.lenF, sm.2, lowP_normL g.low, bf_normL g.len hw, by have := sm.1; omega⟩
    refine q r _ (fun b o hb e => ?_) n1 ⟨⟨dx, upd_same⟩, gr.ins hp1⟩
    rw [upd_ne hb]
    exact s1 _ _ e
def sp_eq (C : Addr) : Sp := fun vs H Q _ => ∃ (a b : Addr) (m m' : Nat) (ps qs : List Pn), vs = [.ref a, .ref b] ∧ OT C H a m ps ∧ OT C H b m' qs ∧ Q (.bl (decide (m = m') && decide (ps = qs))) H
theorem m_OpenText___eq__ (T : Txt K mg C) : C8.Met P w K mg base 1 C "__eq__" (sp_eq C) [] := by
  refine metF T.k_OpenText T.d_OpenText___eq__ sc_OpenText___eq__ (fun vs H Q E h => ?_) (fun f cdv A outer s H vs Q E hr h => ?_)
  · obtain ⟨_, _, _, _, _, _, rfl, _⟩ := h; rfl
  · obtain ⟨a, b, m, m', ps, qs, rfl, ⟨l, ⟨dx, ha⟩, ga⟩, ⟨l', ⟨dy, hb⟩, gb⟩, q⟩ := h
    have cl := T.k_OpenText.ins.cl
    refine ⟨_, (pss_one (ps_ret (pe_and (pe_callB (C8.call_isC T.k_OpenText.ins) (by rfl) T.m_isinstance (by decide +kernel) (pa_cons (pv 1) (pa_cons (C8.pe_gc (v := .ref C) (by rfl) ⟨_, T.k_OpenText.mgC, rfl⟩) pa_nil))) (pe_and (pe_cmpR op_eq (pe_fld (pv 0) rfl) (pe_fld (pv 1) rfl) (nomark _)) (pe_one (pe_cmpR (op_eqD hr.units) (pe_fld (pv 0) rfl) (pe_fld (pv 1) rfl) (nomark _))))))), ?_⟩
    refine ⟨_, rfl, b, dy, _, rfl, hb, _, rfl, iteT ?_⟩
    refine ⟨_, rfl, a, C, dx, _, _, rfl, ha, cl, T.f_many, of_m l m, _, rfl, b, C, dy, _, _, rfl, hb, cl, T.f_many, of_m l' m', rfl, _, rfl, ?_⟩
    by_cases e : m = m'
    · subst e
      rw [decide_eq_true (rfl : m = m), Bool.true_and] at q
      rw [decide_eq_true (rfl : V.int (m : Nat) = V.int (m : Nat))]
      refine iteT ⟨_, rfl, a, C, dx, _, _, rfl, ha, cl, T.f_pieces, of_p l m, _, rfl, b, C, dy, _, _, rfl, hb, cl, T.f_pieces, of_p l' m, .list (ps.map dP), .list (qs.map dP), dp_PL ga.at_, dp_PL gb.at_, shaped_dPs ga.low, shaped_dPs gb.low, ?_⟩
      rw [eqv_dPs]
      exact q
    · rw [decide_eq_false e, Bool.false_and] at q
      rw [decide_eq_false (fun z => e (by have := V.int.inj z; omega))]
      exact iteF q
def sp_many (C : Addr) : Sp := fun vs H Q _ => ∃ (a : Addr) (m : Nat) (ps : List Pn), vs = [.ref a] ∧ OT C H a m ps ∧ Q (.int (m : Nat)) H
theorem m_OpenText_many (T : Txt K mg C) : C8.Met P w K mg base 1 C "many" (sp_many C) [] := by
  refine metF T.k_OpenText T.d_OpenText_many sc_OpenText_many (fun vs H Q E h => ?_) (fun f cdv A outer s H vs Q E hr h => ?_)
  · obtain ⟨_, _, _, rfl, _⟩ := h; rfl
  · obtain ⟨a, m, ps, rfl, ⟨l, ⟨dx, ha⟩, ga⟩, q⟩ := h
    refine ⟨_, (pss_one (ps_ret (pe_fld (pv 0) rfl))), ?_⟩
    exact ⟨_, rfl, a, C, dx, _, _, rfl, ha, T.k_OpenText.ins.cl, T.f_many, of_m l m, q⟩
def sp_pieces (C : Addr) : Sp := fun vs H Q _ => ∃ (a : Addr) (m : Nat) (ps : List Pn), vs = [.ref a] ∧ OT C H a m ps ∧ ∀ L H', Same H H' → H L = none → GL H' m L ps → Q (.ref L) H'
theorem m_OpenText_pieces (T : Txt K mg C) : C8.Met P w K mg base 1 C "pieces" (sp_pieces C) [] := by
  refine metF T.k_OpenText T.d_OpenText_pieces sc_OpenText_pieces (fun vs H Q E h => ?_) (fun f cdv A outer s H vs Q E hr h => ?_)
  · obtain ⟨_, _, _, rfl, _⟩ := h; rfl
  · obtain ⟨a, m, ps, rfl, ⟨l, ⟨dx, ha⟩, ga⟩, q⟩ := h
    obtain ⟨us, hus, pus⟩ := id ga.at_
    refine ⟨_, (pss_one (ps_ret (pe_callTy call_list_of (by rfl) T.m_list (by decide +kernel) (pa_cons (pe_fld (pv 0) rfl) pa_nil)))), ?_⟩
    refine ⟨_, rfl, a, C, dx, _, _, rfl, ha, T.k_OpenText.ins.cl, T.f_pieces, of_p l m, l, us, rfl, .inl (.inl (.inl hus)), fun L nL => q L _ (sameNew nL) nL ?_⟩
    exact ⟨⟨us, upd_same, pus.same (sameNew nL)⟩, ga.len, ga.ws, ga.low, ga.bf, ga.few⟩
end
end K41

set_option linter.all false
set_option maxRecDepth 100000
namespace NM
open WM
/-! ### what keeps two texts apart -/
theorem norm_iff {m : Nat} {a b : List Pn} (ha : LenF m a) (hb : LenF m b) : normL a = normL b ↔ ∀ pt, pt.length = m → wr pt a = wr pt b := by
  refine ⟨fun e pt _ => ?_, norm_same ha hb⟩
  rw [← wr_normL ha, e, wr_normL hb]
/-- two lists made of two texts: they write the same exactly where the texts do -/
theorem made_iff {m m' : Nat} {a b a' b' : List Pn} {Sp : List Nat → Prop} (hS : Rich m Sp) (ha : LenF m a) (hb : LenF m b) (ha' : LenF m' a') (hb' : LenF m' b')
    (h1 : (∀ pt, pt.length = m → wr pt a = wr pt b) → ∀ pt, pt.length = m' → wr pt a' = wr pt b') (h2 : (∀ pt, pt.length = m' → wr pt a' = wr pt b') → ∀ pt, Sp pt → wr pt a = wr pt b) : normL a' = normL b' ↔ normL a = normL b := by
  constructor
  · intro e
    refine uni hS (nm_normL ha) (nm_normL hb) fun pt sp => ?_
    rw [wr_normL ha, wr_normL hb]
    exact h2 ((norm_iff ha' hb').mp e) pt sp
  · intro e
    exact (norm_iff ha' hb').mpr (h1 ((norm_iff ha hb).mp e))
theorem lenF_app {m : Nat} {a b : List Pn} (ha : LenF m a) (hb : LenF m b) : LenF m (a ++ b) := fun p hp => (List.mem_append.mp hp).elim (ha p) (hb p)
theorem join_iff {m : Nat} {a b c : List Pn} (ha : LenF m a) (hb : LenF m b) (hc : LenF m c) : normL (a ++ c) = normL (b ++ c) ↔ normL a = normL b := by
  refine made_iff (rich_all m) ha hb (lenF_app ha hc) (lenF_app hb hc) (fun h pt hp => ?_) fun h pt hp => ?_
  · rw [wr_app, wr_app, h pt hp]
  · have := h pt hp
    rw [wr_app, wr_app] at this
    exact List.append_cancel_right this
theorem join_iff2 {m : Nat} {a b c : List Pn} (ha : LenF m a) (hb : LenF m b) (hc : LenF m c) : normL (c ++ a) = normL (c ++ b) ↔ normL a = normL b := by
  refine made_iff (rich_all m) ha hb (lenF_app hc ha) (lenF_app hc hb) (fun h pt hp => ?_) fun h pt hp => ?_
  · rw [wr_app, wr_app, h pt hp]
  · have := h pt hp
    rw [wr_app, wr_app] at this
    exact List.append_cancel_left this
def repP (t : Nat) (ps : List Pn) : List Pn := (List.replicate t ps).flatten
theorem mem_repP {ps : List Pn} : ∀ {t : Nat} {p : Pn}, p ∈ repP t ps → p ∈ ps
  | 0, _, h => by simp [repP] at h
  | t + 1, p, h => by
    unfold repP at h
    rw [List.replicate_succ, List.flatten_cons] at h
    exact (List.mem_append.mp h).elim id mem_repP
theorem wr_repP (pt : List Nat) (ps : List Pn) : ∀ t, wr pt (repP t ps) = pw (wr pt ps) t
  | 0 => rfl
  | t + 1 => by
    have := wr_repP pt ps t
    unfold repP at this ⊢
    rw [List.replicate_succ, List.flatten_cons, wr_app, this, pw_succ]
theorem pw_inj {a b : W} {t : Nat} (ht : 1 ≤ t) (h : pw a t = pw b t) : a = b := by
  obtain ⟨k, rfl⟩ : ∃ k, t = k + 1 := ⟨t - 1, by omega⟩
  have hl : a.length = b.length := by
    have := congrArg List.length h
    rw [pw_len, pw_len] at this
    exact Nat.eq_of_mul_eq_mul_right (by omega) this
  rw [pw_succ, pw_succ] at h
  exact (List.append_inj h hl).1
theorem rep_iff {m t : Nat} {a b : List Pn} (ht : 1 ≤ t) (ha : LenF m a) (hb : LenF m b) : normL (repP t a) = normL (repP t b) ↔ normL a = normL b := by
  refine made_iff (rich_all m) ha hb (fun p hp => ha p (mem_repP hp)) (fun p hp => hb p (mem_repP hp)) (fun h pt hp => ?_) fun h pt hp => ?_
  · rw [wr_repP, wr_repP, h pt hp]
  · have := h pt hp
    rw [wr_repP, wr_repP] at this
    exact pw_inj ht this
def mirP (ps : List Pn) : List Pn := ps.reverse.map fun p => (p.1.reverse, p.2)
theorem pw_rev (w : W) : ∀ k, pw w.reverse k = (pw w k).reverse
  | 0 => rfl
  | k + 1 => by
    have e : pw w (k + 1) = pw w k ++ w := by
      rw [pw_add w k 1, pw_one]
    rw [pw_succ, e, List.reverse_append, pw_rev w k]
theorem wr_mirP (pt : List Nat) : ∀ ps : List Pn, wr pt (mirP ps) = (wr pt ps).reverse
  | [] => rfl
  | p :: r => by
    have := wr_mirP pt r
    unfold mirP at this ⊢
    rw [List.reverse_cons, List.map_append, wr_app, this, wr, List.reverse_append, List.map_cons, List.map_nil, wr_one]
    congr 1
    unfold wrt
    rw [pw_rev]
theorem lenF_mir {m : Nat} {a : List Pn} (ha : LenF m a) : LenF m (mirP a) := fun p hp => by
  obtain ⟨q, hq, rfl⟩ := List.mem_map.mp hp
  exact ha q (List.mem_reverse.mp hq)
theorem mir_iff {m : Nat} {a b : List Pn} (ha : LenF m a) (hb : LenF m b) : normL (mirP a) = normL (mirP b) ↔ normL a = normL b := by
  refine made_iff (rich_all m) ha hb (lenF_mir ha) (lenF_mir hb) (fun h pt hp => ?_) fun h pt hp => ?_
  · rw [wr_mirP, wr_mirP, h pt hp]
  · have := h pt hp
    rw [wr_mirP, wr_mirP] at this
    exact List.reverse_inj.mp this
/-! ### letters replaced -/
def mapW (img : Nat → List Nat) (w : List Nat) : List Nat := (w.map img).flatten
def mapP (img : Nat → List Nat) (ps : List Pn) : List Pn := ps.map fun p => (mapW img p.1, p.2)
theorem mapW_app (img : Nat → List Nat) (a b : List Nat) : mapW img (a ++ b) = mapW img a ++ mapW img b := by
  unfold mapW
  rw [List.map_append, List.flatten_append]
theorem mapW_pw (img : Nat → List Nat) (w : List Nat) : ∀ k, mapW img (pw w k) = pw (mapW img w) k
  | 0 => rfl
  | k + 1 => by rw [pw_succ, pw_succ, mapW_app, mapW_pw img w k]
theorem wr_mapP (img : Nat → List Nat) (pt : List Nat) : ∀ ps : List Pn, wr pt (mapP img ps) = mapW img (wr pt ps)
  | [] => rfl
  | p :: r => by
    have := wr_mapP img pt r
    unfold mapP at this ⊢
    rw [List.map_cons, wr, wr, this, mapW_app]
    congr 1
    unfold wrt
    rw [mapW_pw]
theorem lenF_map {m : Nat} {a : List Pn} {img : Nat → List Nat} (ha : LenF m a) : LenF m (mapP img a) := fun p hp => by
  obtain ⟨q, hq, rfl⟩ := List.mem_map.mp hp
  exact ha q hq
/-- no word begins another one -/
structure Code (Lt : Nat → Prop) (img : Nat → List Nat) : Prop where
  ne : ∀ c, Lt c → img c ≠ []
  pre : ∀ c d, Lt c → Lt d → img c <+: img d → c = d
theorem Code.inj {Lt : Nat → Prop} {img : Nat → List Nat} (h : Code Lt img) : ∀ {a b : List Nat}, (∀ c ∈ a, Lt c) → (∀ c ∈ b, Lt c) → mapW img a = mapW img b → a = b
  | [], [], _, _, _ => rfl
  | [], d :: b, _, hb, e => by
    have e' : [] = img d ++ mapW img b := e
    exact absurd (List.append_eq_nil_iff.mp e'.symm).1 (h.ne d (hb d List.mem_cons_self))
  | c :: a, [], ha, _, e => by
    have e' : img c ++ mapW img a = [] := e
    exact absurd (List.append_eq_nil_iff.mp e').1 (h.ne c (ha c List.mem_cons_self))
  | c :: a, d :: b, ha, hb, e => by
    have e' : img c ++ mapW img a = img d ++ mapW img b := e
    have hc := ha c List.mem_cons_self
    have hd := hb d List.mem_cons_self
    have cd : c = d := by
      rcases List.append_eq_append_iff.mp e' with ⟨x, hx, _⟩ | ⟨x, hx, _⟩
      · exact h.pre c d hc hd ⟨x, hx.symm⟩
      · exact (h.pre d c hd hc ⟨x, hx.symm⟩).symm
    subst cd
    rw [h.inj (fun x hx => ha x (List.mem_cons_of_mem _ hx)) (fun x hx => hb x (List.mem_cons_of_mem _ hx)) (List.append_cancel_left e')]
theorem mem_pw {w : W} {c : Nat} : ∀ {k : Nat}, c ∈ pw w k → c ∈ w
  | 0, h => by simp [pw_zero] at h
  | k + 1, h => by
    rw [pw_succ] at h
    exact (List.mem_append.mp h).elim id mem_pw
theorem mem_wr {pt : List Nat} {c : Nat} : ∀ {ps : List Pn}, c ∈ wr pt ps → ∃ p ∈ ps, c ∈ p.1
  | [], h => by simp [wr] at h
  | p :: r, h => by
    rw [wr] at h
    rcases List.mem_append.mp h with z | z
    · exact ⟨p, List.mem_cons_self, mem_pw z⟩
    · obtain ⟨q, hq, hc⟩ := mem_wr z
      exact ⟨q, List.mem_cons_of_mem _ hq, hc⟩
theorem map_iff {m : Nat} {a b : List Pn} {Lt : Nat → Prop} {img : Nat → List Nat} (hc : Code Lt img) (la : ∀ p ∈ a, ∀ c ∈ p.1, Lt c) (lb : ∀ p ∈ b, ∀ c ∈ p.1, Lt c) (ha : LenF m a) (hb : LenF m b) :
    normL (mapP img (normL a)) = normL (mapP img (normL b)) ↔ normL a = normL b := by
  have na := (nm_normL ha).lenF
  have nb := (nm_normL hb).lenF
  refine made_iff (rich_all m) ha hb (lenF_map na) (lenF_map nb) (fun h pt hp => ?_) fun h pt hp => ?_
  · rw [wr_mapP, wr_mapP, wr_normL ha, wr_normL hb, h pt hp]
  · have e := h pt hp
    rw [wr_mapP, wr_mapP, wr_normL ha, wr_normL hb] at e
    refine hc.inj (fun c hm => ?_) (fun c hm => ?_) e
    · obtain ⟨p, hp, hcp⟩ := mem_wr hm
      exact la p hp c hcp
    · obtain ⟨p, hp, hcp⟩ := mem_wr hm
      exact lb p hp c hcp
/-! ### unknowns replaced -/
theorem rich_mul {m t b : Nat} {Sp : List Nat → Prop} (ht : 1 ≤ t) (h : ∀ pt : List Nat, pt.length = m → (∀ x ∈ pt, b ≤ x ∧ t ∣ x) → Sp pt) : Rich m Sp := by
  have ge : ∀ N, N + b ≤ t * (N + b) := fun N => Nat.le_mul_of_pos_left _ ht
  refine rich_of (fun N => ⟨List.replicate m (t * (N + b)), h _ (by simp) fun x hx => ?_, by simp, fun x hx => ?_⟩) fun N => ⟨t * (N + b), fun j K hj => ⟨(List.replicate m (t * (N + b))).set j (t * (N + b + K)), h _ (by simp) fun x hx => ?_, ⟨by simp, fun x hx => ?_⟩, fun i z hi hz => ?_, t * (N + b + K), ?_, ?_⟩⟩
  · rw [List.eq_of_mem_replicate hx]
    have := ge N
    exact ⟨by omega, Nat.dvd_mul_right _ _⟩
  · rw [List.eq_of_mem_replicate hx]
    have := ge N
    omega
  · rcases List.mem_or_eq_of_mem_set hx with w | w
    · rw [List.eq_of_mem_replicate w]
      have := ge N
      exact ⟨by omega, Nat.dvd_mul_right _ _⟩
    · rw [w]
      have := ge (N + K)
      rw [Nat.add_right_comm] at this
      exact ⟨by omega, Nat.dvd_mul_right _ _⟩
  · have g1 := ge N
    have g2 := ge (N + K)
    rw [Nat.add_right_comm] at g2
    rcases List.mem_or_eq_of_mem_set hx with w | w
    · rw [List.eq_of_mem_replicate w]; omega
    · rw [w]; omega
  · rw [List.getElem?_set_ne (Ne.symm hi)] at hz
    have := List.mem_of_getElem? hz
    rw [List.eq_of_mem_replicate this]
    exact Nat.le_refl _
  · rw [List.getElem?_set_self (by simpa using hj)]
  · have g2 := ge (N + K)
    rw [Nat.add_right_comm] at g2
    omega
end NM

set_option Elab.async false
set_option linter.all false
set_option maxRecDepth 100000
set_option maxHeartbeats 2000000
namespace K41
open PySem PySem.Spec PyProof.Rows L2 CK SX NM
/-! ### lists of pieces and of forms in the heap -/
theorem mk_text {C : Addr} {Hc : Hp} {x dx l : Addr} {m : Nat} {ps : List Pn} {R : V → Hp → Prop} {E : XK} (nx : Hc x = none) (ndx : Hc dx = none) (nex : dx ≠ x) (gl : GL Hc m l ps) (m3 : m ≤ 3) (hme : meas ps ≤ 2000) (hw : Wl m ps)
    (q : ∀ r H', Same Hc H' → Hc r = none → OTl C H' x r m (normL ps) → R .non H') : sp_init C [.ref x, .int (m : Nat), .ref l] (upd (upd Hc dx (.own x)) x (.ins C dx [])) R E := by
  have s0 : Same Hc (upd (upd Hc dx (.own x)) x (.ins C dx [])) := fun b o e => by
    rw [upd_ne (ne_of_none e nx), upd_ne (ne_of_none e ndx)]
    exact e
  refine ⟨x, dx, l, m, ps, rfl, upd_same, m3, gl.same s0, hme, hw, fun r H1 s1 n1 ot => q r H1 (fun b o e => ?_) (s0.free n1) ot⟩
  exact s1 _ _ (fun z => by rw [z, nx] at e; cases e) (s0 _ _ e)
theorem OF_no (l : Addr) (m : Nat) : ((OF l m).lookup ("pieces" : Str) = none) ∧ ((OF l m).lookup ("many" : Str) = none) :=
  ⟨of_no l m (by decide +kernel) (by decide +kernel), of_no l m (by decide +kernel) (by decide +kernel)⟩
theorem GL.dpP {K : PySem.W.Frag} {H : Hp} {m : Nat} {l : Addr} {ps : List Pn} (h : GL H m l ps) : Dp K H (.ref l) (.list (ps.map dP)) := dp_PL h.at_
theorem Pcs.rev {H : Hp} {vs : List V} {ps : List Pn} (h : Pcs H vs ps) : Pcs H vs.reverse ps.reverse := by
  induction h with
  | nil => exact .nil
  | cons e _ ih =>
    rw [List.reverse_cons, List.reverse_cons]
    exact ih.app (.one e)
theorem Pcs.rep {H : Hp} {vs : List V} {ps : List Pn} (h : Pcs H vs ps) : ∀ t, Pcs H (List.replicate t vs).flatten (List.replicate t ps).flatten
  | 0 => .nil
  | t + 1 => by
    rw [List.replicate_succ, List.replicate_succ, List.flatten_cons, List.flatten_cons]
    exact h.app (h.rep t)
theorem rep_mem {α : Type} {ps : List α} : ∀ {t : Nat} {p : α}, p ∈ (List.replicate t ps).flatten → p ∈ ps
  | 0, _, h => by simp at h
  | t + 1, p, h => by
    rw [List.replicate_succ, List.flatten_cons] at h
    exact (List.mem_append.mp h).elim id rep_mem
theorem len_repP (t : Nat) (ps : List Pn) : (repP t ps).length = t * ps.length := by simp [repP]
theorem meas_repP (ps : List Pn) : ∀ t, meas (repP t ps) = meas ps * t
  | 0 => rfl
  | t + 1 => by
    have := meas_repP ps t
    unfold repP at this ⊢
    rw [List.replicate_succ, List.flatten_cons, meas_app, this, Nat.mul_succ, Nat.add_comm]
theorem meas_mirP (ps : List Pn) : meas (mirP ps) = meas ps := by
  unfold mirP meas
  rw [List.map_map, ← List.sum_reverse (ps.map measP), ← List.map_reverse]
  congr 1
  refine List.map_congr_left fun p _ => ?_
  show measP (p.1.reverse, p.2) = measP p
  unfold measP
  rw [List.length_reverse]
/-- forms in the heap -/
inductive Fs (H : Hp) : List V → List F → Prop
  | nil : Fs H [] []
  | cons {a : Addr} {vs : List V} {f : F} {fs : List F} : FT H a f → Fs H vs fs → Fs H (.ref a :: vs) (f :: fs)
theorem Fs.mono {H H' : Hp} {vs : List V} {fs : List F} (h : Fs H vs fs) (s : ∀ a xs, H a = some (.tup xs) → H' a = some (.tup xs)) : Fs H' vs fs := by
  induction h with
  | nil => exact .nil
  | cons e _ ih => exact .cons (s _ _ e) ih
theorem Fs.same {H H' : Hp} {vs : List V} {fs : List F} (h : Fs H vs fs) (s : Same H H') : Fs H' vs fs := h.mono (tup_same s)
theorem Fs.len {H : Hp} {vs : List V} {fs : List F} (h : Fs H vs fs) : vs.length = fs.length := by
  induction h with
  | nil => rfl
  | cons _ _ ih => simp [ih]
theorem Fs.get {H : Hp} {vs : List V} {fs : List F} (h : Fs H vs fs) {i : Nat} {v : V} (hi : vs[i]? = some v) : ∃ a f, v = .ref a ∧ fs[i]? = some f ∧ FT H a f := by
  induction h generalizing i with
  | nil => simp at hi
  | cons e _ ih =>
    cases i with
    | zero =>
      cases hi
      exact ⟨_, _, rfl, rfl, e⟩
    | succ i => exact ih hi
theorem Fs.app {H : Hp} {vs us : List V} {fs gs : List F} (h : Fs H vs fs) (g : Fs H us gs) : Fs H (vs ++ us) (fs ++ gs) := by
  induction h with
  | nil => exact g
  | cons e _ ih => exact .cons e ih
theorem Fs.set {H : Hp} {vs : List V} {fs : List F} (h : Fs H vs fs) {i : Nat} {a : Addr} {f : F} (e : FT H a f) : Fs H (vs.set i (.ref a)) (fs.set i f) := by
  induction h generalizing i with
  | nil => exact .nil
  | cons e' h ih =>
    cases i with
    | zero => exact .cons e h
    | succ i => exact .cons e' ih
def FL (H : Hp) (l : Addr) (fs : List F) : Prop := ∃ vs, H l = some (.lst vs) ∧ Fs H vs fs
theorem FL.same {H H' : Hp} {l : Addr} {fs : List F} (h : FL H l fs) (s : Same H H') : FL H' l fs := by
  obtain ⟨vs, e, p⟩ := h
  exact ⟨vs, s _ _ e, p.same s⟩
/-! ### forms put into a form -/
def insF (m : Nat) (f : F) (gs : List F) : F := (f.tail.zip gs).foldl (fun acc p => addF acc (timesF p.1 p.2)) (f.headD 0 :: List.replicate m 0)
theorem len_timesF (k : Nat) (f : F) : (timesF k f).length = f.length := by simp [timesF]
theorem len_ins {m : Nat} : ∀ (zs : List (Nat × F)) (acc : F), acc.length = m + 1 → (∀ z ∈ zs, z.2.length = m + 1) → (zs.foldl (fun acc p => addF acc (timesF p.1 p.2)) acc).length = m + 1
  | [], acc, h, _ => h
  | z :: zs, acc, h, hz => by
    have hz0 := hz z List.mem_cons_self
    refine len_ins zs _ ?_ fun y hy => hz y (List.mem_cons_of_mem _ hy)
    have e : acc.length = (timesF z.1 z.2).length := by rw [len_timesF, h, hz0]
    rw [len_add e, len_timesF, hz0]
theorem val_ins {m : Nat} (pt : List Nat) : ∀ (zs : List (Nat × F)) (acc : F), acc.length = m + 1 → (∀ z ∈ zs, z.2.length = m + 1) →
    valF (zs.foldl (fun acc p => addF acc (timesF p.1 p.2)) acc) pt = valF acc pt + (zs.map fun z => z.1 * valF z.2 pt).sum
  | [], acc, _, _ => by simp
  | z :: zs, acc, h, hz => by
    have hz0 := hz z List.mem_cons_self
    have e : acc.length = (timesF z.1 z.2).length := by rw [len_timesF, h, hz0]
    rw [List.foldl_cons, val_ins pt zs _ (by rw [len_add e, len_timesF, hz0]) fun y hy => hz y (List.mem_cons_of_mem _ hy), val_add pt e, val_times, List.map_cons, List.sum_cons]
    omega
theorem dot_zip (pt : List Nat) : ∀ (f : List Nat) (gs : List F), dot f (gs.map fun g => valF g pt) = ((f.zip gs).map fun z => z.1 * valF z.2 pt).sum
  | [], _ => by simp [dot]
  | _ :: _, [] => by simp [dot]
  | a :: f, g :: gs => by
    rw [List.map_cons, dot, dot_zip pt f gs, List.zip_cons_cons, List.map_cons, List.sum_cons]
theorem zip_mem {m : Nat} {f : List Nat} {gs : List F} (h : ∀ g ∈ gs, g.length = m + 1) : ∀ z ∈ f.zip gs, z.2.length = m + 1 := fun z hz => h _ (List.of_mem_zip hz).2
/-- at a point: the form at the values of the forms -/
theorem val_insF {m : Nat} {f : F} {gs : List F} (h : ∀ g ∈ gs, g.length = m + 1) (pt : List Nat) : valF (insF m f gs) pt = valF f (gs.map fun g => valF g pt) := by
  unfold insF
  rw [val_ins pt _ _ (by simp) (zip_mem h)]
  have e : valF (f.headD 0 :: List.replicate m 0) pt = f.headD 0 := by
    unfold valF
    show f.headD 0 + dot (List.replicate m 0) pt = _
    rw [dot_zero, Nat.add_zero]
  rw [e, ← dot_zip]
  rfl
theorem len_insF {m : Nat} {f : F} {gs : List F} (h : ∀ g ∈ gs, g.length = m + 1) : (insF m f gs).length = m + 1 := len_ins _ _ (by simp) (zip_mem h)
def repl (m : Nat) (gs : List F) (ps : List Pn) : List Pn := ps.map fun p => (p.1, insF m p.2 gs)
theorem wr_repl {m : Nat} {gs : List F} (h : ∀ g ∈ gs, g.length = m + 1) (pt : List Nat) : ∀ ps : List Pn, wr pt (repl m gs ps) = wr (gs.map fun g => valF g pt) ps
  | [] => rfl
  | p :: r => by
    have := wr_repl h pt r
    unfold repl at this ⊢
    rw [List.map_cons, wr, wr, this]
    congr 1
    unfold wrt
    rw [val_insF h]
end K41

set_option Elab.async false
set_option linter.all false
set_option maxRecDepth 100000
set_option maxHeartbeats 4000000
namespace K41
open PySem PySem.Spec PyProof.Rows L2 CK SX NM
theorem ws_mega {qs : List Pn} (h : Ws 2000 qs) : Ws 1000000 qs := fun p hp => by have := h p hp; omega
theorem GL.app {H : Hp} {m : Nat} {l l' L : Addr} {ps qs : List Pn} {us vs : List V} (g : GL H m l ps) (g' : GL H m l' qs) (hp : Pcs H us ps) (hq : Pcs H vs qs) (e : H L = some (.lst (us ++ vs))) (few : ps.length + qs.length ≤ 5000) : GL H m L (ps ++ qs) := by
  refine ⟨⟨_, e, hp.app hq⟩, fun p h => ?_, fun p h => ?_, fun p h => ?_, fun p h => ?_, by rw [List.length_append]; exact few⟩
  · exact (List.mem_append.mp h).elim (g.len p) (g'.len p)
  · exact (List.mem_append.mp h).elim (g.ws p) (g'.ws p)
  · exact (List.mem_append.mp h).elim (g.low p) (g'.low p)
  · exact (List.mem_append.mp h).elim (g.bf p) (g'.bf p)
section
variable {P : Program} {w : World} {K : PySem.W.Frag} {mg : Str → Option Value} {base : Heap} {C : Addr}
def sp_need_text (C : Addr) : Sp := fun vs H Q _ => ∃ (a : Addr) (m : Nat) (ps : List Pn), vs = [.ref a] ∧ OT C H a m ps ∧ Q .non H
theorem c_need_text (T : Txt K mg C) : C8.Cal P w K mg base 1 "need_text" (sp_need_text C) [] := by
  refine calF T.d_need_text sc_need_text (fun vs H Q E h => ?_) (fun f cdv A outer s H vs Q E hr h => ?_)
  · obtain ⟨_, _, _, rfl, _⟩ := h; rfl
  · obtain ⟨a, m, ps, rfl, ⟨l, ⟨dx, ha⟩, ga⟩, q⟩ := h
    refine ⟨_, (pss_one (ps_if (pt_not (pt_val (pe_callB (C8.call_isC T.k_OpenText.ins) (by rfl) T.m_isinstance (by decide +kernel) (pa_cons (pv 0) (pa_cons (C8.pe_gc (v := .ref C) (by rfl) ⟨_, T.k_OpenText.mgC, rfl⟩) pa_nil)))))
    (pss_one ps_never)
    pss_nil)), ?_⟩
    exact ⟨_, rfl, a, dx, _, rfl, ha, _, rfl, iteF q⟩
end
end K41

set_option Elab.async false
set_option linter.all false
set_option maxRecDepth 100000
set_option maxHeartbeats 4000000
namespace K41
open PySem PySem.Spec PyProof.Rows L2 CK SX NM
theorem mem_mirP {ps : List Pn} {p : Pn} (h : p ∈ mirP ps) : ∃ q ∈ ps, p = (q.1.reverse, q.2) := by
  obtain ⟨q, hq, e⟩ := List.mem_map.mp h
  exact ⟨q, List.mem_reverse.mp hq, e.symm⟩
theorem GL.mir {H : Hp} {m : Nat} {l L : Addr} {ps : List Pn} (g : GL H m l ps) {H' : Hp} (h : PL H' L (mirP ps)) : GL H' m L (mirP ps) := by
  refine ⟨h, fun p hp => ?_, fun p hp => ?_, fun p hp => ?_, fun p hp => ?_, by unfold mirP; rw [List.length_map, List.length_reverse]; exact g.few⟩
  · obtain ⟨q, hq, rfl⟩ := mem_mirP hp
    exact g.len q hq
  · obtain ⟨q, hq, rfl⟩ := mem_mirP hp
    show q.1.reverse.length ≤ 2000
    rw [List.length_reverse]
    exact g.ws q hq
  · obtain ⟨q, hq, rfl⟩ := mem_mirP hp
    exact fun c hc => g.low q hq c (List.mem_reverse.mp hc)
  · obtain ⟨q, hq, rfl⟩ := mem_mirP hp
    exact g.bf q hq
def unitF (n m : Nat) : F := 0 :: (List.replicate n 0 ++ 1 :: List.replicate (m - n - 1) 0)
theorem len_unitF {n m : Nat} (h : n < m) : (unitF n m).length = m + 1 := by
  unfold unitF
  simp
  omega
theorem dot_app : ∀ (a b pt qt : List Nat), a.length = pt.length → dot (a ++ b) (pt ++ qt) = dot a pt + dot b qt
  | [], b, [], qt, _ => by simp [dot]
  | x :: a, b, y :: pt, qt, h => by
    rw [List.cons_append, List.cons_append, dot, dot, dot_app a b pt qt (by simpa using h)]
    omega
  | [], _, _ :: _, _, h => by simp at h
  | _ :: _, _, [], _, h => by simp at h
theorem val_unit {n m y : Nat} {pt : List Nat} (c : Nat) (hp : pt.length = m) (hy : pt[n]? = some y) : valF (c :: (unitF n m).tail) pt = c + y := by
  obtain ⟨hn, e⟩ := List.getElem?_eq_some_iff.mp hy
  have sp : pt = pt.take n ++ y :: pt.drop (n + 1) := by
    conv => lhs; rw [← List.take_append_drop n pt, ← List.getElem_cons_drop hn, e]
  unfold valF unitF
  show c + dot (List.replicate n 0 ++ 1 :: List.replicate (m - n - 1) 0) pt = c + y
  conv => lhs; rw [sp]
  rw [dot_app _ _ _ _ (by rw [List.length_replicate, List.length_take]; omega), dot_zero, dot, dot_zero]
  omega
def unitsF (m : Nat) : List F := (List.range m).map fun n => unitF n m
def laterG (at_ by_ m : Nat) : List F := (unitsF m).set at_ (by_ :: (unitF at_ m).tail)
theorem len_laterG {at_ by_ m : Nat} : ∀ g ∈ laterG at_ by_ m, g.length = m + 1 := fun g hg => by
  rcases List.mem_or_eq_of_mem_set hg with z | z
  · obtain ⟨n, hn, rfl⟩ := List.mem_map.mp z
    exact len_unitF (List.mem_range.mp hn)
  · rw [z]
    by_cases h : at_ < m
    · have := len_unitF h
      rw [List.length_cons, List.length_tail, this]
      rfl
    · have e : (unitsF m).set at_ (by_ :: (unitF at_ m).tail) = unitsF m := List.set_eq_of_length_le (by simp [unitsF]; omega)
      unfold laterG at hg
      rw [e, z] at hg
      obtain ⟨n, hn, e2⟩ := List.mem_map.mp hg
      rw [← e2]
      exact len_unitF (List.mem_range.mp hn)
/-- what the forms of `later` are at a point -/
theorem val_laterG {at_ by_ m : Nat} {pt : List Nat} (hp : pt.length = m) (ha : at_ < m) : (laterG at_ by_ m).map (fun g => valF g pt) = pt.set at_ (pt.getD at_ 0 + by_) := by
  refine List.ext_getElem? fun i => ?_
  unfold laterG unitsF
  by_cases hi : i < m
  · have hy : pt[i]? = some pt[i] := List.getElem?_eq_getElem (by omega)
    rw [List.getElem?_map]
    by_cases e : at_ = i
    · subst e
      rw [List.getElem?_set_self (by simp; omega), List.getElem?_set_self (by omega)]
      show some (valF (by_ :: (unitF at_ m).tail) pt) = _
      rw [val_unit by_ hp hy, List.getD_eq_getElem?_getD, hy]
      show some (by_ + pt[at_]) = some (pt[at_] + by_)
      rw [Nat.add_comm]
    · rw [List.getElem?_set_ne e, List.getElem?_set_ne e, List.getElem?_map, List.getElem?_range hi, hy]
      show some (valF (unitF i m) pt) = _
      have : unitF i m = 0 :: (unitF i m).tail := rfl
      rw [this, val_unit 0 hp hy, Nat.zero_add]
  · rw [List.getElem?_eq_none (by simp; omega), List.getElem?_eq_none (by simp; omega)]
section
variable {P : Program} {w : World} {K : PySem.W.Frag} {mg : Str → Option Value} {base : Heap} {C : Addr}
def sp_plain_form : Sp := fun vs H Q _ => ∃ (m k : Nat), vs = [.int k, .int m] ∧ m ≤ 3 ∧ ∀ p H', Same H H' → FT H' p (k :: List.replicate m 0) → Q (.ref p) H'
theorem c_plain_form (T : Txt K mg C) : C8.Cal P w K mg base 1 "plain_form" sp_plain_form [] := by
  refine calF T.d_plain_form sc_plain_form (fun vs H Q E h => ?_) (fun f cdv A outer s H vs Q E hr h => ?_)
  · obtain ⟨_, _, rfl, _⟩ := h; rfl
  · obtain ⟨m, k, rfl, hm, q⟩ := h
    refine ⟨_, (pss_one (ps_ret (pe_op op_catS (pe_tup (pa_cons (pv 0) pa_nil)) (pe_op op_repOne (pe_tup (pa_cons pe_int pa_nil)) (pv 1))))), ?_⟩
    refine ⟨_, rfl, by show 1 ≤ sizeLine; decide, fun t1 n1 => ⟨by decide, fun t2 n2 => ⟨_, rfl, t2, _, _, rfl, rfl, upd_same, by omega, by omega, fun p H' s hp => ?_⟩⟩⟩
    have e1 : H' t1 = some (.tup [.int k]) := s _ _ (by rw [upd_ne (ne_of_none upd_same n2)]; exact upd_same)
    refine ⟨t1, p, _, _, rfl, rfl, e1, hp, by simp; omega, fun p2 H2 s2 h2 => q p2 H2 (((sameNew n1).trans (sameNew n2)).trans (s.trans s2)) ?_⟩
    unfold FT
    rw [h2]
    simp
end
end K41

set_option Elab.async false
set_option linter.all false
set_option maxRecDepth 100000
set_option maxHeartbeats 4000000
namespace K41
open PySem PySem.Spec PyProof.Rows L2 CK SX NM
theorem mem_repl {m : Nat} {gs : List F} {ps : List Pn} {p : Pn} (h : p ∈ K41.repl m gs ps) : ∃ q ∈ ps, p = (q.1, insF m q.2 gs) := by
  obtain ⟨q, hq, e⟩ := List.mem_map.mp h
  exact ⟨q, hq, e.symm⟩
theorem GL.repl {H H' : Hp} {k m : Nat} {l L : Addr} {ps : List Pn} {gs : List F} (g : GL H k l ps) (h : PL H' L (K41.repl m gs ps)) (lg : ∀ g ∈ gs, g.length = m + 1) (bf : ∀ p ∈ ps, Bf (insF m p.2 gs)) : GL H' m L (K41.repl m gs ps) := by
  refine ⟨h, fun p hp => ?_, fun p hp => ?_, fun p hp => ?_, fun p hp => ?_, by unfold K41.repl; rw [List.length_map]; exact g.few⟩
  · obtain ⟨q, hq, rfl⟩ := mem_repl hp
    exact len_insF lg
  · obtain ⟨q, hq, rfl⟩ := mem_repl hp
    exact g.ws q hq
  · obtain ⟨q, hq, rfl⟩ := mem_repl hp
    exact g.low q hq
  · obtain ⟨q, hq, rfl⟩ := mem_repl hp
    exact bf q hq
section
variable {P : Program} {w : World} {K : PySem.W.Frag} {mg : Str → Option Value} {base : Heap} {C : Addr}
end
end K41

set_option Elab.async false
set_option linter.all false
set_option maxRecDepth 100000
set_option maxHeartbeats 2000000
/-! t[::-1] of a tuple -/
namespace HT
open PySem PySem.Spec PyProof.Rows
section
variable {prog : Program} {w : World} {A : Around} {E : Value → Shared → Prop} {s : Shared}
theorem adjust_rev (n : Nat) : Builtin.Slice.sliceAdjust none none (-1) (n : Int) = ((n : Int) - 1, -1) := rfl
theorem places_rev (n : Nat) : Builtin.Slice.slicePlaces ((n : Int) - 1) (-1) (-1) = n := by
  unfold Builtin.Slice.slicePlaces
  have h1 : ¬ (-1 : Int) > 0 := by omega
  rw [if_neg h1, show ((n : Int) - 1 - -1 - 1) / - -1 = (n : Int) - 1 by rw [show (- -1 : Int) = 1 from rfl, Int.ediv_one]; omega]
  split <;> omega
theorem pick_rev (xs : Array Value) : ((List.range xs.size).filterMap fun (m : Nat) => xs[((xs.size : Int) - 1 + (m : Int) * (-1)).toNat]?).toArray = xs.toList.reverse.toArray := by
  congr 1
  obtain ⟨l⟩ := xs
  show (List.range l.length).filterMap (fun (m : Nat) => (l.toArray)[((l.length : Int) - 1 + (m : Int) * (-1)).toNat]?) = l.reverse
  have e : ∀ k, k ≤ l.length → (List.range k).filterMap (fun (m : Nat) => (l.toArray)[((l.length : Int) - 1 + (m : Int) * (-1)).toNat]?) = l.reverse.take k := by
    intro k
    induction k with
    | zero => intro _; rfl
    | succ k ih =>
      intro h
      rw [List.range_succ, List.filterMap_append, ih (by omega), List.take_succ]
      congr 1
      have e1 : ((l.length : Int) - 1 + (k : Int) * (-1)).toNat = l.length - 1 - k := by omega
      have hk : l.length - 1 - k < l.length := by omega
      rw [List.getElem?_reverse (by omega)]
      simp only [List.filterMap_cons, List.filterMap_nil, e1]
      rw [List.getElem?_toArray, List.getElem?_eq_getElem hk]
      rfl
  rw [e l.length (Nat.le_refl _), List.take_of_length_le (by rw [List.length_reverse]; omega)]
theorem sliceApplied_rev {sl : Addr} {vl vu vs : Value} {n : Nat} {Q : Int × Int × Nat → Shared → Prop} (hs : s.heap.IsSliceOf sl vl vu vs) (pl : IsPart vl none) (pu : IsPart vu none) (ps : IsPart vs (some (-1)))
    (h : Q (((n : Nat) : Int) - 1, -1, n) s) : wpAny (model prog w) A (Builtin.Slice.sliceApplied (.ref sl) (pure (n : Int))) Q E s := by
  obtain ⟨os, hos, hcs, hds⟩ := id hs
  unfold Builtin.Slice.sliceApplied Builtin.Slice.sliceFields
  refine wpAny_bind (wpAny_bind (wpAny_field hos hds (x := vl) rfl (wpAny_bind (wpAny_field hos hds (x := vu) rfl (wpAny_bind (wpAny_field hos hds (x := vs) rfl (wpAny_pure ?_)))))))
  refine wpAny_bind (slicePart_ ps ?_)
  show wpAny _ _ (if ((-1 : Int) == 0) = true then _ else _) _ _ s
  rw [if_neg (by decide)]
  refine wpAny_bind (slicePart_ pl (wpAny_bind (slicePart_ pu (wpAny_bind (wpAny_pure ?_)))))
  show wpAny _ _ (match Builtin.Slice.sliceAdjust none none (-1) (n : Int) with | (lo, hi) => pure (lo, (-1 : Int), Builtin.Slice.slicePlaces lo hi (-1))) _ _ s
  rw [adjust_rev n]
  show wpAny _ _ (pure (((n : Int) - 1), (-1 : Int), Builtin.Slice.slicePlaces ((n : Int) - 1) (-1) (-1))) _ _ s
  rw [places_rev]
  exact wpAny_pure h
theorem getItem_tuple_rev {t sl : Addr} {items : Array Value} {vl vu vs : Value} {Q : Value → Shared → Prop} (ht : IsTup s.heap t items) (hs : s.heap.IsSliceOf sl vl vu vs) (pl : IsPart vl none) (pu : IsPart vu none) (ps : IsPart vs (some (-1)))
    (h : Q (.ref s.heap.objs.size) { s with heap := s.heap.push { cls := .type "tuple", data := .seq items.toList.reverse.toArray } })
    (hsz : items.size ≤ sizeLine) : wpAny (model prog w) A (getItem (.ref t) (.ref sl)) Q E s := by
  have htake : sizeOk (.seq items.toList.reverse.toArray) := by
    show items.toList.reverse.toArray.size ≤ sizeLine
    rw [List.size_toArray, List.length_reverse, Array.length_toList]
    omega
  obtain ⟨os, hos, hcs, hds⟩ := id hs
  have hTs : s.TypeIs (.ref sl) "slice" := ⟨os, hos, hcs⟩
  unfold getItem
  try with_reducible refine wpAny_holding ?_
  first | refine wpAny_bind (wpAny_pure ?_) | skip
  refine wpAny_bind (wpAny_sequenceKey ht.typeIs (by decide) ?_)
  refine wpAny_bind (wpAny_callSpecial?_slot (name := Str.ofString "__getitem__") ht.typeIs PyProof.Rows.slot_tuple_getitem
    (wpAny_call_entry PyProof.Rows.slot_tuple_getitem ht.typeIs entry_tuple_getitem ?_ (args_tuple_getitem _ _)))
  show wpAny _ _ (Builtin.Tuple.tupleItemsOf (.ref t) >>= _) _ _ s
  refine wpAny_bind (tupleItemsOf_ ht ?_)
  refine wpAny_bind (wpAny_typeOf hTs ?_)
  rw [if_pos (by decide)]
  refine wpAny_bind (sliceApplied_rev hs pl pu ps ?_)
  have hno : ¬ ((((items.size : Nat) : Int) - 1 == 0 && (-1 : Int) == 1 && items.size == items.size) = true) := by simp
  show wpAny _ _ (if (((items.size : Nat) : Int) - 1 == 0 && (-1 : Int) == 1 && items.size == items.size) = true then _ else _) _ _ s
  rw [if_neg hno, pick_rev]
  first
    | exact wpAny_bind (m := Builtin.Tuple.tupleExact _) (wpAny_newObj_type (wpAny_pure ⟨_, rfl, wpAny_pure h⟩) htake)
    | exact wpAny_bind (m := Builtin.Tuple.tupleExact _) (wpAny_newObj_type (wpAny_bind (wpAny_pure (wpAny_pure ⟨_, rfl, wpAny_pure h⟩))) htake)
    | exact wpAny_bind (wpAny_bind (m := Builtin.Tuple.tupleExact _) (wpAny_newObj_type (wpAny_pure (wpAny_pure ⟨_, rfl, wpAny_pure h⟩)) htake))
    | exact wpAny_bind (wpAny_bind (m := Builtin.Tuple.tupleExact _) (wpAny_newObj_type (wpAny_pure ⟨_, rfl, wpAny_pure h⟩) htake))
end
end HT
namespace CK
open PySem PySem.Spec PyProof.Rows L2 SX
section
variable {X : Cx}
/-- t[::-1], a tuple -/
def tRevT (te : TE) : TE := fun σ H Q => te σ H fun x H1 => ∃ a xs, x = .ref a ∧ H1 a = some (.tup xs) ∧ ∀ p H', Same H1 H' → H' p = some (.tup xs.reverse) → Q (.ref p) H'
theorem pe_revT {e : Expr} {te : TE} {k : Nat} {p1 p2 p3 pos : Pos} (he : PE X e te) : PE X (.Subscript e (.Slice none none (some (.UnaryOp .USub (.Constant (.int 1) k p1) p2)) p3) pos) (tRevT te) := by
  refine ⟨fun pins s σ H Q I h => ?_⟩
  refine Subscript_ (thn (he.run pins s σ H _ I h) fun v s1 ⟨x, H1, I1, r1, q1⟩ => ?_)
  obtain ⟨a, xs, ex, hx, q⟩ := q1
  subst ex
  cases r1
  have hst : PO X (some (.UnaryOp .USub (.Constant (.int 1) k p1) p2)) (tPart (tUn (rU fun i => .int (-i)) (tC (.int 1)))) := po_some (pe_un un_neg pe_int)
  refine wpAny_Slice (thn (po_none.run pins s1 σ H1 (fun o H2 => o = none ∧ H2 = H1) I1 ⟨rfl, rfl⟩) fun vl s2 ⟨l, H2, I2, pl, el, e2⟩ => ?_)
  subst el e2
  refine thn (po_none.run pins s2 σ H2 (fun o H3 => o = none ∧ H3 = H2) I2 ⟨rfl, rfl⟩) fun vu s3 ⟨u, H3, I3, pu, eu, e3⟩ => ?_
  subst eu e3
  refine thn (hst.run pins s3 σ H3 (fun o H4 => o = some (-1) ∧ H4 = H3) I3 ⟨1, rfl, -1, rfl, rfl, rfl⟩) fun vs s4 ⟨o, H4, I4, ps, eo, e4⟩ => ?_
  subst eo e4
  have I5 : Inv X pins σ H4 { s4 with heap := s4.heap.push { cls := .type "slice", data := .fields #[vl, vu, vs] } } := I4.kept (t' := s4.toks) fun b ob q => Heap.get?_push_of_some _ q
  obtain ⟨its, r, ht, hz⟩ := I5.tuple (.inl (.inl hx))
  have hlen := r.length
  show wpAny (model X.prog X.w) X.A (subscriptTail e (.Slice none none (some (.UnaryOp .USub (.Constant (.int 1) k p1) p2)) p3) (.ref a) (.ref s4.heap.objs.size)) (EP X pins σ Q) X.xe { s4 with heap := s4.heap.push { cls := .type "slice", data := .fields #[vl, vu, vs] } }
  refine tail_any (ops := [.ref a, .ref s4.heap.objs.size]) ht.typeIs (PyProof.Rows.slot_tuple_getitem.lookup) ?_ (by with_unfolding_all rfl)
  refine HT.getItem_tuple_rev ht (Heap.IsSliceOf.new _ vl vu vs) pl pu ps ?_ (by rw [List.size_toArray]; omega)
  refine ⟨.ref _, _, I5.laid (t' := s4.toks) (o := .tup xs.reverse) (fun b ob q => Heap.get?_push_of_some _ q) (Nat.le_refl _) ?_, rfl, q _ _ (sameNew (I5.hok.fresh (Nat.le_refl _))) upd_same⟩
  exact ⟨by rw [List.length_reverse]; exact hz, its.reverse, r.reverse, IsTup.new _ _⟩
end
end CK

set_option Elab.async false
set_option linter.all false
set_option maxRecDepth 100000
set_option maxHeartbeats 4000000
namespace K41
open PySem PySem.Spec PyProof.Rows L2 CK SX NM
/-- a dict of images -/
structure Im (H : Hp) (d : Addr) (kvs : List (Key × V)) (img : Nat → List Nat) : Prop where
  at_ : H d = some (.dK kvs)
  few : kvs.length ≤ 26
  ok : ∀ k v, (k, v) ∈ kvs → ∃ c z, k = .inr (S [c]) ∧ v = .str (S z) ∧ Low [c] ∧ Low z ∧ z.length ≤ 40
  val : ∀ c, Low [c] → (valV kvs (.inr (S [c]))).getD (.str (S [c])) = .str (S (img c))
  len : ∀ c, (img c).length ≤ 40
  low : ∀ c, Low [c] → Low (img c)
theorem Im.same {H H' : Hp} {d : Addr} {kvs : List (Key × V)} {img : Nat → List Nat} (i : Im H d kvs img) (s : Same H H') : Im H' d kvs img := ⟨s _ _ i.at_, i.few, i.ok, i.val, i.len, i.low⟩
section
variable {P : Program} {w : World} {K : PySem.W.Frag} {mg : Str → Option Value} {base : Heap} {C : Addr}
end
end K41

set_option Elab.async false
set_option linter.all false
set_option maxRecDepth 100000
set_option maxHeartbeats 4000000
namespace K41
open PySem PySem.Spec PyProof.Rows L2 CK SX NM
def LP (H : Hp) (a : Addr) (pt : List Nat) : Prop := H a = some (.lst (natsV pt))
def vMulN : V → V → V
  | .int i, .int j => .int (i * j)
  | _, _ => .non
theorem zip_mulN : ∀ (f pt : List Nat), List.zipWith vMulN (natsV f) (natsV pt) = (List.zipWith (fun x y : Nat => ((x * y : Nat) : Int)) f pt).map V.int
  | [], _ => by simp [natsV]
  | _ :: _, [] => by simp [natsV]
  | x :: xs, y :: ys => by
    show V.int ((x : Int) * (y : Int)) :: List.zipWith vMulN (natsV xs) (natsV ys) = V.int ((x * y : Nat) : Int) :: _
    rw [zip_mulN xs ys, Int.natCast_mul]
theorem sum_zipN : ∀ (f pt : List Nat), (List.zipWith (fun x y : Nat => ((x * y : Nat) : Int)) f pt).sum = ((dot f pt : Nat) : Int)
  | [], _ => by simp [dot]
  | _ :: _, [] => by simp [dot]
  | x :: xs, y :: ys => by
    rw [List.zipWith_cons_cons, List.sum_cons, sum_zipN xs ys, dot, Int.natCast_add]
theorem joinL_nil : ∀ xs : List (List Nat), TL.joinL [] xs = xs.flatten
  | [] => rfl
  | [x] => by
    show x = _
    simp
  | x :: y :: r => by
    show x ++ ([] ++ TL.joinL [] (y :: r)) = _
    rw [joinL_nil (y :: r), List.nil_append]
    rfl
theorem len_empty : (Str.ofString "").length = 0 := by decide +kernel
theorem empty_S : (Str.ofString "" : Str) = S [] := by decide +kernel
theorem join_flat (xs : List (List Nat)) : Txt.join (Str.ofString "") (xs.map S) = S xs.flatten := by
  rw [empty_S, join_S [] xs, joinL_nil]
theorem len_flatS : ∀ xs : List (List Nat), ((xs.map S).map fun x => x.length).sum = xs.flatten.length
  | [] => rfl
  | x :: r => by
    rw [List.map_cons, List.map_cons, List.sum_cons, len_flatS r, S_len, List.flatten_cons, List.length_append]
/-- where a word stands first in itself doubled -/
theorem at_occ {z : List Nat} (h : z ≠ []) (i : Nat) : StrLaws.At (S ((z ++ z).drop 1)) (S z) (S ((z ++ z).drop 1)).length i ↔ i + 1 ≤ z.length ∧ Occ z i := by
  have n0 := List.length_pos_iff.mpr h
  unfold StrLaws.At
  rw [StrLaws.subAt_eq, S_len, S_len]
  show (i + z.length ≤ ((z ++ z).drop 1).length ∧ ((((z ++ z).drop 1).drop i).take z.length == z) = true) ↔ _
  rw [List.length_drop, List.length_append, List.drop_drop, beq_iff_eq]
  unfold Occ
  rw [Nat.add_comm 1 i]
  constructor
  · rintro ⟨a, b⟩
    exact ⟨by omega, b⟩
  · rintro ⟨a, b⟩
    exact ⟨by omega, b⟩
theorem find_prim {z : List Nat} (h : z ≠ []) : (Txt.find (S ((z ++ z).drop 1)) (S z) = (z.length : Int) - 1) ↔ WM.Prim z := by
  have n0 := List.length_pos_iff.mpr h
  have last := (at_occ h (z.length - 1)).mpr ⟨by omega, occ_last h⟩
  rcases PyProof.Rows.find_whole (S ((z ++ z).drop 1)) (S z) with ⟨_, no⟩ | ⟨i, e, hi, lo⟩
  · exact absurd last (no _)
  · have o := (at_occ h i).mp hi
    rw [e]
    constructor
    · intro ei
      refine Classical.byContradiction fun np => ?_
      obtain ⟨k, hk, ok⟩ := not_prim_occ h np
      exact lo k (by omega) ((at_occ h k).mpr ⟨by omega, ok⟩)
    · intro pr
      refine Classical.byContradiction fun ne => ?_
      exact occ_not_prim h (by omega) o.2 pr
section
variable {P : Program} {w : World} {K : PySem.W.Frag} {mg : Str → Option Value} {base : Heap} {C : Addr}
def sp_value : Sp := fun vs H Q _ => ∃ (fa pa : Addr) (f : F) (pt : List Nat) (m : Nat), vs = [.ref fa, .ref pa] ∧ FT H fa f ∧ LP H pa pt ∧ f.length = m + 1 ∧ pt.length = m ∧ m ≤ 3 ∧ Bf f ∧ Bf pt ∧ ∀ H', Same H H' → Q (.int (valF f pt : Nat)) H'
theorem c_law_value (T : Txt K mg C) : C8.Cal P w K mg base 1 "_law_value" sp_value [] := by
  refine calF T.d_law_value sc_law_value (fun vs H Q E h => ?_) (fun f cdv A outer s H vs Q E hr h => ?_)
  · obtain ⟨_, _, _, _, _, rfl, _⟩ := h; rfl
  · obtain ⟨a, b, f, p, m, rfl, ha, hb, lf, lp, m3, bf, bp, q⟩ := h
    refine ⟨_, (pss_one (ps_ret (pe_op op_add (pe_ix ix_tup (pv 0) pe_int (fun _ _ => rfl)) (pe_callB (cr_sum rfl) (by rfl) T.m_sum (by decide +kernel) (pa_cons (pe_lc (own := [("_law_number", 2), ("_law_count", 3)]) (by rfl) sc_law_value.nd (pi_zipB (K := K) rfl (by rfl) T.m_zip (pa_cons (pe_slice sl_drop (pv 0) (po_some pe_int) po_none) (pa_cons (pv 1) pa_nil))) (blkOk_by (N := ["_law_form_here", "_law_point", "_law_number", "_law_count"]) (sc := C8.fnScope (topS 70)) (own := [("_law_number", 2), ("_law_count", 3)]) (by decide +kernel)) (fun _ _ _ _ _ => (pg_two (K := K) (i := 2) (j := 3) rfl rfl sc_law_value.nd rfl rfl (Or.inl rfl) (Or.inl rfl))) (fun _ _ _ _ _ => pts_nil) (fun _ _ _ _ _ => (pe_op op_mulW (pv 2) (pv 3)))) pa_nil))))), ?_⟩
    obtain ⟨c, r, rfl⟩ : ∃ c r, f = c :: r := by cases f with | nil => simp at lf | cons c r => exact ⟨c, r, rfl⟩
    refine ⟨_, rfl, a, _, 0, .int (c : Nat), rfl, rfl, .inl (.inl ha), atI_nat (j := 0) rfl, ?_⟩
    refine ⟨_, rfl, 1, rfl, a, _, 1, rfl, rfl, rfl, ha, fun p1 H1 s1 h1 => ?_⟩
    have hb1 : LP H1 b p := s1 _ _ hb
    have h1' : H1 p1 = some (.tup (natsV r)) := h1
    refine ⟨_, rfl, .T, .L, p1, b, natsV r, natsV p, rfl, .inl (.inl h1'), .inl (.inl hb1), ?_⟩
    refine fun D hD => lcZ_map vMulN (by rw [natsV_len, natsV_len]; simp at lf; omega) (by rw [natsV_len]; exact small5 (by simp at lf; omega)) (fun H' s => ⟨.inl (.inl (s _ _ h1')), .inl (.inl (s _ _ hb1))⟩) (fun i x y H' R hx hy s q' => ?_) hD fun H' s hL => ?_
    · obtain ⟨x', mx, _, rfl⟩ := get_nat hx
      obtain ⟨y', my, _, rfl⟩ := get_nat hy
      have b1 := bf x' (List.mem_cons_of_mem _ mx)
      have b2 := bp y' my
      exact ⟨rfl, _, rfl, _, rfl, _, _, rfl, rfl, wide_mul (a := 900) (b := 900) (by omega) (by omega) (by decide) (by decide) (by decide), q' _ (Same.refl _)⟩
    · rw [zip_mulN] at hL
      refine ⟨D, _, rfl, .inl (.inl hL), _, _, rfl, rfl, ?_⟩
      rw [sum_zipN]
      have := q H' (s1.trans s)
      unfold valF at this
      rw [Int.natCast_add] at this
      exact this
end
end K41

set_option Elab.async false
set_option linter.all false
set_option maxRecDepth 100000
set_option maxHeartbeats 4000000
namespace K41
open PySem PySem.Spec PyProof.Rows L2 CK SX NM
/-! ### the form of a text's length -/
def lenP (m : Nat) (ps : List Pn) : F := ps.foldl (fun acc p => addF acc (timesF p.1.length p.2)) (0 :: List.replicate m 0)
theorem len_lenQ {m : Nat} : ∀ (ps : List Pn) (acc : F), acc.length = m + 1 → LenF m ps → (ps.foldl (fun acc p => addF acc (timesF p.1.length p.2)) acc).length = m + 1
  | [], acc, h, _ => h
  | p :: r, acc, h, l => by
    have l0 := l p List.mem_cons_self
    have e : acc.length = (timesF p.1.length p.2).length := by rw [len_timesF, h, l0]
    exact len_lenQ r _ (by rw [len_add e, len_timesF, l0]) fun q hq => l q (List.mem_cons_of_mem _ hq)
theorem len_lenP {m : Nat} {ps : List Pn} (l : LenF m ps) : (lenP m ps).length = m + 1 := len_lenQ ps _ (by simp) l
theorem val_lenQ {m : Nat} (pt : List Nat) : ∀ (ps : List Pn) (acc : F), acc.length = m + 1 → LenF m ps → valF (ps.foldl (fun acc p => addF acc (timesF p.1.length p.2)) acc) pt = valF acc pt + (wr pt ps).length
  | [], acc, _, _ => by simp [wr]
  | p :: r, acc, h, l => by
    have l0 := l p List.mem_cons_self
    have e : acc.length = (timesF p.1.length p.2).length := by rw [len_timesF, h, l0]
    have e2 : (wrt pt p).length = p.1.length * valF p.2 pt := WM.pw_len _ _
    rw [List.foldl_cons, val_lenQ pt r _ (by rw [len_add e, len_timesF, l0]) fun q hq => l q (List.mem_cons_of_mem _ hq), val_add pt e, val_times, wr, List.length_append, e2]
    omega
theorem val_lenP {m : Nat} {ps : List Pn} (l : LenF m ps) (pt : List Nat) : valF (lenP m ps) pt = (wr pt ps).length := by
  unfold lenP
  rw [val_lenQ pt ps _ (by simp) l]
  have : valF (0 :: List.replicate m 0) pt = 0 := by
    unfold valF
    show 0 + dot (List.replicate m 0) pt = 0
    rw [dot_zero]
  rw [this, Nat.zero_add]
theorem bf_lenP {m : Nat} {ps : List Pn} (l : LenF m ps) (hw : Wl m ps) : Bf (lenP m ps) := fun x hx => by
  have a := mem_val (len_lenP l) hx
  rw [val_lenP l] at a
  exact Nat.lt_of_le_of_lt a hw
/-- words and numbers of times -/
inductive Ns (H : Hp) : List V → List (List Nat × Nat) → Prop
  | nil : Ns H [] []
  | cons {a : Addr} {vs : List V} {z : List Nat} {n : Nat} {xs : List (List Nat × Nat)} : H a = some (.tup [.str (S z), .int (n : Nat)]) → Ns H vs xs → Ns H (.ref a :: vs) ((z, n) :: xs)
theorem Ns.mono {H H' : Hp} {vs : List V} {xs : List (List Nat × Nat)} (h : Ns H vs xs) (s : ∀ b ys, H b = some (.tup ys) → H' b = some (.tup ys)) : Ns H' vs xs := by
  induction h with
  | nil => exact .nil
  | cons e _ ih => exact .cons (s _ _ e) ih
theorem Ns.len {H : Hp} {vs : List V} {xs : List (List Nat × Nat)} (h : Ns H vs xs) : vs.length = xs.length := by
  induction h with
  | nil => rfl
  | cons _ _ ih => simp [ih]
theorem Ns.get {H : Hp} {vs : List V} {xs : List (List Nat × Nat)} (h : Ns H vs xs) {i : Nat} {v : V} (hi : vs[i]? = some v) : ∃ a z n, v = .ref a ∧ xs[i]? = some (z, n) ∧ H a = some (.tup [.str (S z), .int (n : Nat)]) := by
  induction h generalizing i with
  | nil => simp at hi
  | cons e _ ih =>
    cases i with
    | zero =>
      cases hi
      exact ⟨_, _, _, rfl, rfl, e⟩
    | succ i => exact ih hi
theorem Ns.app {H : Hp} {vs us : List V} {xs ys : List (List Nat × Nat)} (h : Ns H vs xs) (g : Ns H us ys) : Ns H (vs ++ us) (xs ++ ys) := by
  induction h with
  | nil => exact g
  | cons e _ ih => exact .cons e ih
section
variable {P : Program} {w : World} {K : PySem.W.Frag} {mg : Str → Option Value} {base : Heap} {C : Addr}
theorem c_form_value (T : Txt K mg C) : C8.Cal P w K mg base 1 "form_value" sp_value [] := by
  refine calF T.d_form_value sc_form_value (fun vs H Q E h => ?_) (fun f cdv A outer s H vs Q E hr h => ?_)
  · obtain ⟨_, _, _, _, _, rfl, _⟩ := h; rfl
  · obtain ⟨a, b, f, p, m, rfl, ha, hb, lf, lp, m3, bf, bp, q⟩ := h
    refine ⟨_, (pss_one (ps_ret (pe_op op_add (pe_ix ix_tup (pv 0) pe_int (fun _ _ => rfl)) (pe_callB (cr_sum rfl) (by rfl) T.m_sum (by decide +kernel) (pa_cons (pe_lc (own := [("number", 2), ("count", 3)]) (by rfl) sc_form_value.nd (pi_zipB (K := K) rfl (by rfl) T.m_zip (pa_cons (pe_slice sl_drop (pv 0) (po_some pe_int) po_none) (pa_cons (pv 1) pa_nil))) (blkOk_by (N := ["form", "point", "number", "count"]) (sc := C8.fnScope (topS 19)) (own := [("number", 2), ("count", 3)]) (by decide +kernel)) (fun _ _ _ _ _ => (pg_two (K := K) (i := 2) (j := 3) rfl rfl sc_form_value.nd rfl rfl (Or.inl rfl) (Or.inl rfl))) (fun _ _ _ _ _ => pts_nil) (fun _ _ _ _ _ => (pe_op op_mulW (pv 2) (pv 3)))) pa_nil))))), ?_⟩
    obtain ⟨c, r, rfl⟩ : ∃ c r, f = c :: r := by cases f with | nil => simp at lf | cons c r => exact ⟨c, r, rfl⟩
    refine ⟨_, rfl, a, _, 0, .int (c : Nat), rfl, rfl, .inl (.inl ha), atI_nat (j := 0) rfl, ?_⟩
    refine ⟨_, rfl, 1, rfl, a, _, 1, rfl, rfl, rfl, ha, fun p1 H1 s1 h1 => ?_⟩
    have hb1 : LP H1 b p := s1 _ _ hb
    have h1' : H1 p1 = some (.tup (natsV r)) := h1
    refine ⟨_, rfl, .T, .L, p1, b, natsV r, natsV p, rfl, .inl (.inl h1'), .inl (.inl hb1), ?_⟩
    refine fun D hD => lcZ_map vMulN (by rw [natsV_len, natsV_len]; simp at lf; omega) (by rw [natsV_len]; exact small5 (by simp at lf; omega)) (fun H' s => ⟨.inl (.inl (s _ _ h1')), .inl (.inl (s _ _ hb1))⟩) (fun i x y H' R hx hy s q' => ?_) hD fun H' s hL => ?_
    · obtain ⟨x', mx, _, rfl⟩ := get_nat hx
      obtain ⟨y', my, _, rfl⟩ := get_nat hy
      have b1 := bf x' (List.mem_cons_of_mem _ mx)
      have b2 := bp y' my
      exact ⟨rfl, _, rfl, _, rfl, _, _, rfl, rfl, wide_mul (a := 900) (b := 900) (by omega) (by omega) (by decide) (by decide) (by decide), q' _ (Same.refl _)⟩
    · rw [zip_mulN] at hL
      refine ⟨D, _, rfl, .inl (.inl hL), _, _, rfl, rfl, ?_⟩
      rw [sum_zipN]
      have := q H' (s1.trans s)
      unfold valF at this
      rw [Int.natCast_add] at this
      exact this
def sp_counted (C : Addr) : Sp := fun vs H Q _ => ∃ (a pa : Addr) (m : Nat) (ps : List Pn) (pt : List Nat), vs = [.ref a, .ref pa] ∧ OT C H a m ps ∧ LP H pa pt ∧ pt.length = m ∧ m ≤ 3 ∧ Bf pt ∧ ∀ D us H', Same H H' → H' D = some (.lst us) → Ns H' us (ps.map fun p => (p.1, valF p.2 pt)) → Q (.ref D) H'
theorem c_counted (T : Txt K mg C) : C8.Cal P w K mg base 3 "counted" (sp_counted C) [] := by
  refine calF T.d_counted sc_counted (fun vs H Q E h => ?_) (fun f0 cdv A outer s H vs Q E hr h => ?_)
  · obtain ⟨_, _, _, _, _, rfl, _⟩ := h; rfl
  · obtain ⟨a, pa, m, ps, pt, rfl, oa, hpa, lpt, m3, bp, q⟩ := h
    obtain ⟨l, ⟨dx, ha⟩, ga⟩ := id oa
    refine ⟨_, (pss_one (ps_ret (pe_lc (own := [("word", 2), ("form", 3)]) (by rfl) sc_counted.nd (pi_list (C8.pe_mt0 (m_OpenText_pieces T) hr (by decide) (pv 0))) (blkOk_by (N := ["text", "point", "word", "form"]) (sc := C8.fnScope (topS 50)) (own := [("word", 2), ("form", 3)]) (by decide +kernel)) (fun _ _ _ _ _ => (pg_two (K := K) (i := 2) (j := 3) rfl rfl sc_counted.nd rfl rfl (Or.inl rfl) (Or.inl rfl))) (fun _ _ _ _ _ => pts_nil) (fun _ _ _ _ _ => (pe_tup (pa_cons (pv 2) (pa_cons (C8.pe_c (c_form_value T) hr (by decide) (by rfl) (pa_cons (pv 3) (pa_cons (pv 1) pa_nil))) pa_nil))))))), ?_⟩
    refine ⟨_, rfl, a, dx, _, rfl, ha, (OF_no l m).1, a, m, ps, rfl, oa, fun L1 H1 s1 n1 g1 => ?_⟩
    obtain ⟨vs, hvs, pvs⟩ := id g1.at_
    have lv := pvs.len
    have few := g1.few
    refine ⟨L1, rfl, ⟨_, .inl (.inl hvs)⟩, fun D hD => ?_⟩
    refine lc_list (K := K) (a := L1) (xs := vs) (fun i H2 => Same H1 H2 ∧ ∃ us, H2 D = some (.lst us) ∧ Ns H2 us ((ps.take i).map fun p => (p.1, valF p.2 pt))) ⟨sameNew hD, [], upd_same, .nil⟩ (fun i H2 _ p => .inl (.inl (p.1 _ _ hvs))) (fun i y H2 hi p => ?_) fun H2 p => ?_
    · obtain ⟨s2, us, hus, pus⟩ := p
      obtain ⟨b, p, rfl, hpi, pc⟩ := pvs.get hi
      have mem := List.mem_of_getElem? hpi
      obtain ⟨fa, e1, e2⟩ := pc.mono (tup_same s2)
      have lu := pus.len
      rw [List.length_map, List.length_take] at lu
      refine ⟨b, _, rfl, .inl (.inl e1), rfl, _, _, rfl, _, _, rfl, rfl, rfl, ?_⟩
      refine yes_if ⟨_, rfl, _, rfl, _, rfl, fa, pa, p.2, pt, m, rfl, e2, (s1.trans s2) _ _ hpa, g1.len p mem, lpt, m3, g1.bf p mem, bp, fun H3 s3 => ⟨by show 2 ≤ sizeLine; decide, fun t nt => ?_⟩⟩
      have st := sameNew (o := .tup [.str (S p.1), .int (valF p.2 pt : Nat)]) nt
      have sC := s3.trans st
      have hu := sC _ _ hus
      refine ⟨us, hu, by rw [sizeLine_eq]; omega, same_upd2 hD (s2.trans sC), _, upd_same, ?_⟩
      have eT : (ps.take (i + 1)).map (fun p => (p.1, valF p.2 pt)) = (ps.take i).map (fun p => (p.1, valF p.2 pt)) ++ [(p.1, valF p.2 pt)] := by
        rw [List.take_succ, hpi, List.map_append]
        rfl
      rw [eT]
      exact ((pus.mono (tup_same sC)).mono (tup_upd hu)).app (.cons (tup_upd hu _ _ upd_same) .nil)
    · obtain ⟨s2, us, hus, pus⟩ := p
      rw [lv, List.take_length] at pus
      exact q D us H2 (s1.trans s2) hus pus
def sp_word_at (C : Addr) : Sp := fun vs H Q _ => ∃ (a pa : Addr) (m : Nat) (ps : List Pn) (pt : List Nat), vs = [.ref a, .ref pa] ∧ OT C H a m ps ∧ LP H pa pt ∧ pt.length = m ∧ m ≤ 3 ∧ Bf pt ∧ (∀ p ∈ ps, p.1 ≠ []) ∧ (wr pt ps).length ≤ 1000000 ∧ ∀ H', Same H H' → Q (.str (S (wr pt ps))) H'
theorem c_word_at (T : Txt K mg C) : C8.Cal P w K mg base 4 "word_at" (sp_word_at C) [] := by
  refine calF T.d_word_at sc_word_at (fun vs H Q E h => ?_) (fun f0 cdv A outer s H vs Q E hr h => ?_)
  · obtain ⟨_, _, _, _, _, rfl, _⟩ := h; rfl
  · obtain ⟨a, pa, m, ps, pt, rfl, oa, hpa, lpt, m3, bp, ne, lw, q⟩ := h
    refine ⟨_, (pss_one (ps_ret (pe_join pe_str (pe_lc (own := [("word", 2), ("times", 3)]) (by rfl) sc_word_at.nd (pi_list (C8.pe_c (c_counted T) hr (by decide) (by rfl) (pa_cons (pv 0) (pa_cons (pv 1) pa_nil)))) (blkOk_by (N := ["text", "point", "word", "times"]) (sc := C8.fnScope (topS 51)) (own := [("word", 2), ("times", 3)]) (by decide +kernel)) (fun _ _ _ _ _ => (pg_two (K := K) (i := 2) (j := 3) rfl rfl sc_word_at.nd rfl rfl (Or.inl rfl) (Or.inl rfl))) (fun _ _ _ _ _ => pts_nil) (fun _ _ _ _ _ => (pe_op op_repM (pv 2) (pv 3))))))), ?_⟩
    refine ⟨⟨_, rfl⟩, _, rfl, _, rfl, a, pa, m, ps, pt, rfl, oa, hpa, lpt, m3, bp, fun L us H1 s1 hus pus => ?_⟩
    have lu := pus.len
    rw [List.length_map] at lu
    obtain ⟨_, _, ga⟩ := id oa
    have few := ga.few
    refine ⟨L, rfl, ⟨_, .inl (.inl hus)⟩, fun D hD => ?_⟩
    refine lc_list (K := K) (a := L) (xs := us) (fun i H2 => Same H1 H2 ∧ H2 D = some (.lst (((ps.take i).map (wrt pt)).map fun z => V.str (S z)))) ⟨sameNew hD, upd_same⟩ (fun i H2 _ p => .inl (.inl (p.1 _ _ hus))) (fun i y H2 hi p => ?_) fun H2 p => ?_
    · obtain ⟨s2, hws⟩ := p
      obtain ⟨b, z, n, rfl, hx, e1⟩ := (pus.mono (tup_same s2)).get hi
      obtain ⟨p, hpi, e⟩ : ∃ p, ps[i]? = some p ∧ (p.1, valF p.2 pt) = (z, n) := by
        rw [List.getElem?_map] at hx
        cases e : ps[i]? with
        | none => rw [e] at hx; cases hx
        | some p => rw [e] at hx; exact ⟨p, rfl, Option.some.inj hx⟩
      cases e
      have mem := List.mem_of_getElem? hpi
      have wp := ga.ws p mem
      have lw1 := wrt_le (pt := pt) mem
      have lw2 : (wrt pt p).length = p.1.length * valF p.2 pt := WM.pw_len _ _
      have n0 := List.length_pos_iff.mpr (ne p mem)
      have lv : valF p.2 pt ≤ p.1.length * valF p.2 pt := Nat.le_mul_of_pos_left _ n0
      refine ⟨b, _, rfl, .inl (.inl e1), rfl, _, _, rfl, _, _, rfl, rfl, rfl, yes_if ⟨_, rfl, _, rfl, p.1, valF p.2 pt, rfl, rfl, by omega, by omega, by rw [Nat.mul_comm]; omega, _, hws, ?_, same_upd2 hD s2, ?_⟩⟩
      · rw [List.length_map, List.length_map, List.length_take, sizeLine_eq]
        omega
      · rw [upd_same, List.take_succ, hpi, List.map_append, List.map_append]
        rfl
    · obtain ⟨s2, hws⟩ := p
      rw [lu, List.take_length] at hws
      have ef : (ps.map (wrt pt)).flatten = wr pt ps := by
        clear hws lw lu few ga pus hus oa ne q
        induction ps with
        | nil => rfl
        | cons p r ih => rw [List.map_cons, List.flatten_cons, ih]; rfl
      refine ⟨Str.ofString "", D, (ps.map (wrt pt)).map S, rfl, rfl, .inl (.inl (.inl (by rw [hws]; simp only [List.map_map]; rfl))), ?_, ?_⟩
      · rw [len_flatS, ef, len_empty]
        omega
      · rw [K41.join_flat, ef]
        exact q H2 (s1.trans s2)
def sp_length (C : Addr) : Sp := fun vs H Q _ => ∃ (a : Addr) (m : Nat) (ps : List Pn), vs = [.ref a] ∧ OT C H a m ps ∧ m ≤ 3 ∧ ∀ p H', Same H H' → FT H' p (lenP m ps) → Q (.ref p) H'
theorem c_length (T : Txt K mg C) : C8.Cal P w K mg base 3 "length" (sp_length C) [] := by
  refine calF T.d_length sc_length (fun vs H Q E h => ?_) (fun f0 cdv A outer s H vs Q E hr h => ?_)
  · obtain ⟨_, _, _, rfl, _⟩ := h; rfl
  · obtain ⟨a, m, ps, rfl, oa, m3, q⟩ := h
    obtain ⟨l, ⟨dx, ha⟩, ga⟩ := id oa
    refine ⟨_, (pss_cons (ps_expr (C8.pe_c (c_need_text T) hr (by decide) (by rfl) (pa_cons (pv 0) pa_nil)))
    (pss_cons (ps_set (i := 1) sc_length.nd rfl (Or.inl rfl) (C8.pe_c (c_plain_form T) hr (by decide) (by rfl) (pa_cons pe_int (pa_cons (C8.pe_mt0 (m_OpenText_many T) hr (by decide) (pv 0)) pa_nil))))
    (pss_cons (ps_for PassesOwn.never rfl (pi_list (C8.pe_mt0 (m_OpenText_pieces T) hr (by decide) (pv 0))) (pg_two (K := K) (i := 2) (j := 3) rfl rfl sc_length.nd rfl rfl (Or.inl rfl) (Or.inl rfl))
    (pss_one (ps_set (i := 1) sc_length.nd rfl (Or.inl rfl) (C8.pe_c (c_form_sum T) hr (by decide) (by rfl) (pa_cons (pv 1) (pa_cons (C8.pe_c (c_form_times T) hr (by decide) (by rfl) (pa_cons (pe_callB call_len_str (by rfl) T.m_len (by decide +kernel) (pa_cons (pv 2) pa_nil)) (pa_cons (pv 3) pa_nil))) pa_nil))))))
    (pss_one (ps_ret (pv 1)))))), ?_⟩
    refine ⟨_, rfl, a, m, ps, rfl, oa, ?_⟩
    refine ⟨_, rfl, a, dx, _, rfl, ha, (OF_no l m).2, a, m, ps, rfl, oa, m, 0, rfl, m3, fun p0 H1 s1 h1 => ?_⟩
    refine ⟨_, rfl, a, dx, _, rfl, s1 _ _ ha, (OF_no l m).1, a, m, ps, rfl, oa.same s1, fun L H2 s2 n2 g2 => ?_⟩
    obtain ⟨us, hus, pus⟩ := id g2.at_
    have lu := pus.len
    refine ⟨L, rfl, ⟨_, .inl (.inl hus)⟩, for_list (K := K) (a := L) (xs := us) (fun i σ H' => Same H2 H' ∧ ∃ (p : Addr) (y2 y3 : Option V), σ = [some (.ref a), some (.ref p), y2, y3] ∧ FT H' p (lenP m (ps.take i)))
      ⟨.refl _, p0, none, none, rfl, h1.same s2⟩ (fun i σ H' _ p => .inl (.inl (p.1 _ _ hus))) (fun i y σ H' hi pI => ?_) (fun σ H' pI => ?_)⟩
    · obtain ⟨s3, p, y2, y3, rfl, hp⟩ := pI
      obtain ⟨b, q', rfl, hpi, pc⟩ := pus.get hi
      have mem := List.mem_of_getElem? hpi
      have lp := g2.len q' mem
      have wp := g2.ws q' mem
      obtain ⟨fa, e1, e2⟩ := pc.mono (tup_same s3)
      have lF : LenF m (ps.take i) := fun z hz => g2.len z (List.mem_of_mem_take hz)
      have eT : lenP m (ps.take (i + 1)) = addF (lenP m (ps.take i)) (timesF q'.1.length q'.2) := by
        unfold lenP
        rw [List.take_succ, hpi, List.foldl_append]
        rfl
      refine ⟨b, _, rfl, .inl (.inl e1), rfl, _, _, rfl, _, _, rfl, rfl, ?_⟩
      have e2' : H' fa = some (.tup (natsV q'.2)) := e2
      refine ⟨_, rfl, _, rfl, S q'.1, rfl, len_line (by omega), _, rfl, q'.1.length, fa, q'.2, by show [V.int ((S q'.1).length : Nat), V.ref fa] = _; rw [S_len], e2', by omega, Nat.lt_of_le_of_lt (show q'.1.length ≤ 2000 by omega) (Nat.lt_of_lt_of_le (by decide : 2000 < 2 ^ 20) (Nat.pow_le_pow_right (by decide) (by decide))), g2.bf q' mem, fun p1 H3 s4 h3 => ?_⟩
      refine ⟨p, p1, _, _, rfl, hp.same s4, h3, by rw [len_lenP lF]; omega, by rw [len_lenP lF, len_timesF, lp], fun p2 H4 s5 h4 => ?_⟩
      rw [eT]
      exact ⟨(s3.trans s4).trans s5, p2, _, _, rfl, h4⟩
    · obtain ⟨s3, p, y2, y3, rfl, hp⟩ := pI
      rw [lu, List.take_length] at hp
      exact ⟨_, rfl, q p _ ((s1.trans s2).trans s3) hp⟩
end
end K41

set_option linter.all false
set_option maxRecDepth 100000
namespace K41
open PySem PySem.Spec PyProof.Rows L2 CK SX NM
def ukn (ns : List Pn) (i : Nat) : Bool := ((ns.filter isPow).map fun p => p.2.getD (i + 1) 0).any fun x => decide (x ≠ 0)
end K41

set_option Elab.async false
set_option linter.all false
set_option maxRecDepth 100000
set_option maxHeartbeats 8000000
namespace K41
open PySem PySem.Spec PyProof.Rows L2 CK SX NM SP
section
variable {P : Program} {w : World} {K : PySem.W.Frag} {mg : Str → Option Value} {base : Heap} {C : Addr}
def sp_powers_in : Sp := fun vs H Q _ => ∃ (l : Addr) (m : Nat) (ps : List Pn), vs = [.ref l] ∧ PL H l ps ∧ LenF m ps ∧ ps.length ≤ 5000 ∧ ∀ D H', Same H H' → PL H' D (ps.filter isPow) → Q (.ref D) H'
theorem c_powers_in (T : Txt K mg C) : C8.Cal P w K mg base 2 "powers_in" sp_powers_in [] := by
  refine calF T.d_powers_in sc_powers_in (fun vs H Q E h => ?_) (fun f0 cdv A outer s H vs Q E hr h => ?_)
  · obtain ⟨_, _, _, rfl, _⟩ := h; rfl
  · obtain ⟨l, m, ps, rfl, ⟨vs, hl, hp⟩, lF, few, q⟩ := h
    have lv := hp.len
    refine ⟨_, (pss_one (ps_ret (pe_lc (own := [("piece", 1)]) (by rfl) sc_powers_in.nd (pi_list (pv 0)) (blkOk_by (N := ["pieces", "piece"]) (sc := C8.fnScope (topS 38)) (own := [("piece", 1)]) (by decide +kernel)) (fun _ _ _ _ _ => (pg_name (i := 1) sc_powers_in.nd rfl (Or.inl rfl))) (fun _ _ _ _ _ => (pts_one (pt_val (C8.pe_c (c_is_power T) hr (by decide) (by rfl) (pa_cons (pv 1) pa_nil))))) (fun _ _ _ _ _ => (pv 1))))), ?_⟩
    refine ⟨_, rfl, l, rfl, ⟨_, .inl (.inl hl)⟩, fun D hD => ?_⟩
    refine lc_list (K := K) (a := l) (xs := vs) (fun i H1 => Same H H1 ∧ PL H1 D ((ps.take i).filter isPow)) ⟨sameNew hD, [], upd_same, .nil⟩ (fun i H1 _ p => .inl (.inl (p.1 _ _ hl))) (fun i y H1 hi p => ?_) fun H1 p => ?_
    · obtain ⟨s1, ws, hws, pws⟩ := p
      obtain ⟨a, p, rfl, hpi, pc⟩ := hp.get hi
      have pc1 := pc.mono (tup_same s1)
      have eT : (ps.take (i + 1)).filter isPow = (ps.take i).filter isPow ++ (if isPow p = true then [p] else []) := by
        rw [List.take_succ, hpi, List.filter_append]
        congr 1
        show List.filter isPow [p] = _
        rw [List.filter_cons, List.filter_nil]
      have lw := pws.len
      have l2 := List.length_filter_le isPow (ps.take i)
      rw [List.length_take] at l2
      refine ⟨rfl, _, rfl, a, p, m, rfl, pc1, lF p (List.mem_of_getElem? hpi), _, rfl, ?_⟩
      cases z : isPow p with
      | true =>
        rw [z, if_pos rfl] at eT
        rw [eT]
        exact iteT ⟨_, rfl, ws, hws, by rw [sizeLine_eq]; omega, same_upd2 hD s1, _, upd_same, (pws.upd hws).app (.one (pc1.mono (tup_upd hws)))⟩
      | false =>
        rw [z, if_neg Bool.false_ne_true, List.append_nil] at eT
        rw [eT]
        exact iteF ⟨s1, ws, hws, pws⟩
    · obtain ⟨s1, pl⟩ := p
      rw [lv, List.take_length] at pl
      exact q D H1 s1 pl
def sp_unknowns (C : Addr) : Sp := fun vs H Q _ => ∃ (a : Addr) (m : Nat) (ps : List Pn), vs = [.ref a] ∧ OT C H a m ps ∧ m ≤ 3 ∧ ∀ D H', Same H H' → H' D = some (.lst (((List.range m).filter (ukn ps)).map fun i : Nat => V.int (i : Nat))) → Q (.ref D) H'
theorem c_unknowns (T : Txt K mg C) : C8.Cal P w K mg base 4 "unknowns" (sp_unknowns C) [] := by
  refine calF T.d_unknowns sc_unknowns (fun vs H Q E h => ?_) (fun f0 cdv A outer s H vs Q E hr h => ?_)
  · obtain ⟨_, _, _, rfl, _⟩ := h; rfl
  · obtain ⟨a, m, ps, rfl, oa, m3, q⟩ := h
    obtain ⟨l, ⟨dx, ha⟩, ga⟩ := id oa
    refine ⟨_, (pss_cons (ps_expr (C8.pe_c (c_need_text T) hr (by decide) (by rfl) (pa_cons (pv 0) pa_nil)))
    (pss_cons (ps_set (i := 1) sc_unknowns.nd rfl (Or.inr rfl) (pe_lc (own := [("_", 2), ("form", 3)]) (by rfl) sc_unknowns.nd (pi_list (C8.pe_c (c_powers_in T) hr (by decide) (by rfl) (pa_cons (C8.pe_mt0 (m_OpenText_pieces T) hr (by decide) (pv 0)) pa_nil))) (blkOk_by (N := ["text", "forms", "_", "form", "at"]) (sc := C8.fnScope (topS 49)) (own := [("_", 2), ("form", 3)]) (by decide +kernel)) (fun _ _ _ _ _ => (pg_two (K := K) (i := 2) (j := 3) rfl rfl sc_unknowns.nd rfl rfl (Or.inl rfl) (Or.inl rfl))) (fun _ _ _ _ _ => pts_nil) (fun _ _ _ _ _ => (pv 3))))
    (pss_one (ps_ret (pe_lc (own := [("at", 4)]) (by rfl) sc_unknowns.nd (pi_range1 (by rfl) T.m_range (pa_cons (C8.pe_mt0 (m_OpenText_many T) hr (by decide) (pv 0)) pa_nil)) (blkOk_by (N := ["text", "forms", "_", "form", "at"]) (sc := C8.fnScope (topS 49)) (own := [("at", 4)]) (by decide +kernel)) (fun _ _ _ _ _ => (pg_name (i := 4) sc_unknowns.nd rfl (Or.inr rfl))) (fun _ _ _ _ _ => (pts_one (pt_val (pe_callB (cr_anyL rfl) (by rfl) T.m_any (by decide +kernel) (pa_cons (pe_lc (own := [("form", 3)]) (by rfl) sc_unknowns.nd (pi_listK (K := K) rfl (pv 1)) (blkOk_by (own := [("form", 3)]) (by rfl)) (fun _ _ _ _ _ => (pg_name (i := 3) sc_unknowns.nd rfl (Or.inl rfl))) (fun _ _ _ _ _ => pts_nil) (fun _ _ _ _ _ => (pe_ix ix_tupH (pv 3) (pe_op op_add (pv 4) pe_int) (fun _ _ => rfl)))) pa_nil))))) (fun _ _ _ _ _ => (pv 4))))))), ?_⟩
    refine ⟨_, rfl, a, m, ps, rfl, oa, ?_⟩
    refine ⟨_, rfl, a, dx, _, rfl, ha, (OF_no l m).1, a, m, ps, rfl, oa, fun L1 H1 s1 n1 g1 => ?_⟩
    refine ⟨L1, m, ps, rfl, g1.at_, g1.len, g1.few, fun L2 H2 s2 pl2 => ?_⟩
    obtain ⟨vs, hvs, pvs⟩ := id pl2
    have lv := pvs.len
    have s12 := s1.trans s2
    have lq : (ps.filter isPow).length ≤ 5000 := Nat.le_trans (List.length_filter_le _ _) g1.few
    generalize eqs : ps.filter isPow = qs at *
    refine ⟨L2, rfl, ⟨_, .inl (.inl hvs)⟩, fun D hD => ?_⟩
    refine lc_list (K := K) (a := L2) (xs := vs) (fun i H3 => Same H2 H3 ∧ FL H3 D ((qs.take i).map fun p => p.2)) ⟨sameNew hD, [], upd_same, .nil⟩ (fun i H3 _ p => .inl (.inl (p.1 _ _ hvs))) (fun i y H3 hi p => ?_) fun H3 p => ?_
    · obtain ⟨s3, ws, hws, pws⟩ := p
      obtain ⟨a, p, rfl, hpi, pc⟩ := pvs.get hi
      obtain ⟨fa, e1, e2⟩ := pc.mono (tup_same s3)
      have e2' : H3 fa = some (.tup (natsV p.2)) := e2
      have lw := pws.len
      rw [List.length_map, List.length_take] at lw
      refine ⟨a, _, rfl, .inl (.inl e1), rfl, _, _, rfl, _, _, rfl, rfl, rfl, ?_⟩
      refine yes_if ⟨_, rfl, ws, hws, by rw [sizeLine_eq]; omega, same_upd2 hD s3, _, upd_same, ?_⟩
      have eT : (qs.take (i + 1)).map (fun p => p.2) = (qs.take i).map (fun p => p.2) ++ [p.2] := by
        rw [List.take_succ, hpi, List.map_append]
        rfl
      rw [eT]
      exact ((pws.mono (tup_upd hws))).app (.cons (tup_upd hws _ _ e2') .nil)
    obtain ⟨s3, us, hus, pus⟩ := p
    rw [lv, List.take_length] at pus
    have lu := pus.len
    rw [List.length_map] at lu
    have s13 := s12.trans s3
    refine ⟨_, rfl, a, dx, _, rfl, s13 _ _ ha, (OF_no l m).2, a, m, ps, rfl, oa.same s13, (m : Int), rfl, by omega, by omega, fun D2 hD2 => ?_⟩
    have em : ((m : Int)).toNat = m := by omega
    refine lc_filtW walk_range (ukn ps) (fun i => V.int (i : Nat)) (small1000 (by omega)) (fun _ _ => True.intro) (fun i x H4 H5 R R0 hi s4 yy q1 q0 => ?_) hD2 fun H4 s4 hL => ?_
    · obtain ⟨rfl, rfl⟩ := yy
      have hi : i < m := by
        have : i < ((m : Int)).toNat := hi
        omega
      refine ⟨rfl, ?_⟩
      have hus4 := s4 _ _ hus
      refine ⟨_, rfl, D, rfl, ⟨_, .inl (.inl hus4)⟩, fun D3 hD3 => ?_⟩
      refine lc_list (K := K) (a := D) (xs := us) (fun j H6 => Same H5 H6 ∧ H6 D3 = some (.lst (((qs.take j).map fun p => p.2.getD (i + 1) 0).map fun n : Nat => V.int (n : Nat)))) ⟨sameNew hD3, upd_same⟩ (fun j H6 _ p => .inl (.inl (p.1 _ _ hus4))) (fun j y H6 hj p => ?_) fun H6 p => ?_
      · obtain ⟨s6, hws⟩ := p
        obtain ⟨b, f, rfl, hfj, fb⟩ := (pus.same (s4.trans s6)).get hj
        obtain ⟨p, hpj, rfl⟩ : ∃ p, qs[j]? = some p ∧ p.2 = f := by
          rw [List.getElem?_map] at hfj
          cases e : qs[j]? with
          | none => rw [e] at hfj; cases hfj
          | some p => rw [e] at hfj; exact ⟨p, rfl, Option.some.inj hfj⟩
        have mem : p ∈ ps.filter isPow := by rw [eqs]; exact List.mem_of_getElem? hpj
        have lp := ga.len p (List.mem_filter.mp mem).1
        have hx : (natsV p.2)[i + 1]? = some (.int (p.2.getD (i + 1) 0 : Nat)) := by
          unfold natsV
          rw [List.getElem?_map, List.getD_eq_getElem?_getD, List.getElem?_eq_getElem (by omega)]
          rfl
        refine ⟨rfl, yes_if ⟨_, rfl, _, rfl, _, _, rfl, rfl, b, _, ((i + 1 : Nat) : Int), _, rfl, by show V.int (0 + (i : Int) + 1) = _; congr 1; omega, fb, atI_nat (j := i + 1) hx, _, hws, ?_, same_upd2 hD3 s6, ?_⟩⟩
        · have := List.length_take (i := j) (l := qs)
          rw [List.length_map, List.length_map, sizeLine_eq]
          omega
        · rw [upd_same, List.take_succ, hpj, List.map_append, List.map_append]
          rfl
      · obtain ⟨s6, hws⟩ := p
        rw [lu, List.take_length] at hws
        refine ⟨D3, _, rfl, hws, ?_⟩
        have eU : ((qs.map fun p => p.2.getD (i + 1) 0).any fun x => decide (x ≠ 0)) = ukn ps i := by
          unfold ukn
          rw [eqs]
        rw [eU]
        cases z : ukn ps i with
        | true => exact ⟨true, rfl, iteT ⟨_, rfl, by show R (V.int (0 + (i : Int))) _; rw [Int.zero_add]; exact q1 z _ s6⟩⟩
        | false => exact ⟨false, rfl, iteF (q0 z _ s6)⟩
    · rw [em] at hL
      exact q _ _ (s13.trans s4) hL
end
end K41

set_option Elab.async false
set_option linter.all false
set_option maxRecDepth 100000
set_option maxHeartbeats 8000000
namespace K41
open PySem PySem.Spec PyProof.Rows L2 CK SX NM
/-! ### points up to a total -/
abbrev Rw := List Nat × Nat
def step (n : Nat) (rows : List Rw) : List Rw := rows.flatMap fun r => (List.range (r.2 / n + 1)).map fun k => (r.1 ++ [k], r.2 - n * k)
def rows0 (c most : Nat) : List Rw := if c ≤ most then [([], most - c)] else []
def upTo (c : Nat) (fs : List Nat) (most : Nat) : List Rw := fs.foldl (fun rows n => step n rows) (rows0 c most)
def Rb (most i : Nat) (rows : List Rw) : Prop := rows.length ≤ (most + 1) ^ i ∧ ∀ r ∈ rows, r.2 ≤ most ∧ r.1.length ≤ i
theorem rb_step {most i n : Nat} {rows : List Rw} (hn : 1 ≤ n) (h : Rb most i rows) : Rb most (i + 1) (step n rows) := by
  obtain ⟨h1, h2⟩ := h
  constructor
  · have key : ∀ rows : List Rw, (∀ r ∈ rows, r.2 ≤ most) → (step n rows).length ≤ rows.length * (most + 1) := fun rows => by
      induction rows with
      | nil => intro _; simp [step]
      | cons r rs ih =>
        intro h
        have a := ih fun q hq => h q (List.mem_cons_of_mem _ hq)
        have b := h r List.mem_cons_self
        have c := Nat.div_le_self r.2 n
        unfold step at a ⊢
        rw [List.flatMap_cons, List.length_append, List.length_map, List.length_range, List.length_cons, Nat.add_mul]
        omega
    rw [Nat.pow_succ]
    exact Nat.le_trans (key rows fun r hr => (h2 r hr).1) (Nat.mul_le_mul_right _ h1)
  · intro r hr
    obtain ⟨q, hq, hr⟩ := List.mem_flatMap.mp hr
    obtain ⟨k, _, rfl⟩ := List.mem_map.mp hr
    obtain ⟨a, b⟩ := h2 q hq
    exact ⟨by show q.2 - n * k ≤ most; omega, by show (q.1 ++ [k]).length ≤ i + 1; rw [List.length_append]; simp; omega⟩
theorem join1 {a u : TS} {D : Ends} {σ : L2.St} {H : Hp} (Pre : L2.St → Hp → Prop) (rest : ∀ σ' H', Pre σ' H' → u D σ' H') (m : ∀ U : TS, (∀ σ' H', Pre σ' H' → U D σ' H') → tSeq a U D σ H) : tSeq a u D σ H := m u rest
theorem rb_zero {c most : Nat} : Rb most 0 (rows0 c most) := by
  unfold rows0
  split
  · exact ⟨Nat.le_refl 1, fun r hr => by rw [List.mem_singleton.mp hr]; exact ⟨Nat.sub_le _ _, Nat.le_refl 0⟩⟩
  · exact ⟨Nat.zero_le _, fun r hr => absurd hr List.not_mem_nil⟩
/-- rows of the heap -/
inductive Rws (H : Hp) : List V → List Rw → Prop
  | nil : Rws H [] []
  | cons {t l : Addr} {r : Rw} {vs : List V} {rs : List Rw} : H t = some (.tup [.ref l, .int (r.2 : Nat)]) → LP H l r.1 → Rws H vs rs → Rws H (.ref t :: vs) (r :: rs)
theorem Rws.same {H H' : Hp} {vs : List V} {rs : List Rw} (h : Rws H vs rs) (s : Same H H') : Rws H' vs rs := by
  induction h with
  | nil => exact .nil
  | cons e p _ ih => exact .cons (s _ _ e) (s _ _ p) ih
theorem Rws.len {H : Hp} {vs : List V} {rs : List Rw} (h : Rws H vs rs) : vs.length = rs.length := by
  induction h with
  | nil => rfl
  | cons _ _ _ ih => simp [ih]
theorem Rws.get {H : Hp} {vs : List V} {rs : List Rw} (h : Rws H vs rs) : ∀ {i : Nat} {v : V}, vs[i]? = some v → ∃ t l r, v = .ref t ∧ rs[i]? = some r ∧ H t = some (.tup [.ref l, .int (r.2 : Nat)]) ∧ LP H l r.1 := by
  induction h with
  | nil => intro i v hi; simp at hi
  | cons e p _ ih =>
    intro i v hi
    cases i with
    | zero => cases hi; exact ⟨_, _, _, rfl, rfl, e, p⟩
    | succ i => exact ih hi
theorem Rws.app {H : Hp} {vs us : List V} {rs qs : List Rw} (h : Rws H vs rs) (g : Rws H us qs) : Rws H (vs ++ us) (rs ++ qs) := by
  induction h with
  | nil => exact g
  | cons e p _ ih => exact .cons e p ih
/-- a list that is filled now is none of them -/
def Far (D : Addr) (vs : List V) (H : Hp) : Prop := ∀ v ∈ vs, ∃ t l x, v = .ref t ∧ H t = some (.tup [.ref l, x]) ∧ l ≠ D
theorem Rws.upd {H : Hp} {D : Addr} {xs ys vs : List V} {rs : List Rw} (h : Rws H vs rs) (hD : H D = some (.lst xs)) (f : Far D vs H) : Rws (L2.upd H D (.lst ys)) vs rs := by
  induction h with
  | nil => exact .nil
  | cons e p _ ih =>
    obtain ⟨t, l, x, e1, e2, ne⟩ := f _ List.mem_cons_self
    cases e1
    rw [e] at e2
    cases e2
    exact .cons (tup_upd hD _ _ e) (show L2.upd H D (.lst ys) _ = _ by rw [upd_ne ne]; exact p) (ih fun v hv => f v (List.mem_cons_of_mem _ hv))
def RwL (H : Hp) (l : Addr) (rs : List Rw) : Prop := ∃ vs, H l = some (.lst vs) ∧ Rws H vs rs
theorem RwL.same {H H' : Hp} {l : Addr} {rs : List Rw} (h : RwL H l rs) (s : Same H H') : RwL H' l rs := by
  obtain ⟨vs, e, p⟩ := h
  exact ⟨vs, s _ _ e, p.same s⟩
section
variable {P : Program} {w : World} {K : PySem.W.Frag} {mg : Str → Option Value} {base : Heap} {C : Addr}
def sp_upto : Sp := fun vs H Q _ => ∃ (fa : Addr) (c most : Nat) (fs : List Nat), vs = [.ref fa, .int most] ∧ FT H fa (c :: fs) ∧ fs.length ≤ 3 ∧ (∀ n ∈ fs, 1 ≤ n ∧ n < 2 ^ 100) ∧ most ≤ 60 ∧ ∀ D H', Same H H' → RwL H' D (upTo c fs most) → Q (.ref D) H'
theorem c_points_up_to (T : Txt K mg C) : C8.Cal P w K mg base 1 "points_up_to" sp_upto [] := by
  refine calF T.d_points_up_to sc_points_up_to (fun vs H Q E h => ?_) (fun f cdv A outer s H vs Q E hr h => ?_)
  · obtain ⟨_, _, _, _, rfl, _⟩ := h; rfl
  · obtain ⟨fa, c, most, fs, rfl, hf, lf, hn, hm, q⟩ := h
    have hf' : H fa = some (.tup (natsV (c :: fs))) := hf
    refine ⟨_, (pss_cons (ps_set (i := 2) sc_points_up_to.nd rfl (Or.inl rfl) (pe_ifExp (pt_cmpR op_le (pe_ix ix_tup (pv 0) pe_int (fun _ _ => rfl)) (pv 1) (nomark _)) (pe_lst (pa_cons (pe_tup (pa_cons (pe_lst pa_nil) (pa_cons (pe_op op_sub (pv 1) (pe_ix ix_tup (pv 0) pe_int (fun _ _ => rfl))) pa_nil))) pa_nil)) (pe_lst pa_nil)))
    (pss_cons (ps_for PassesOwn.never rfl (pi_tup (pe_slice sl_drop (pv 0) (po_some pe_int) po_none)) (pg_name (i := 3) sc_points_up_to.nd rfl (Or.inr rfl))
    (pss_one (ps_setLc2 (i := 2) (own := [("point", 4), ("left", 5), ("count", 6)]) (vs1 := [6]) rfl sc_points_up_to.nd rfl rfl (sw_true rfl rfl rfl (by decide +kernel)) (pi_list (pv 2)) (blkOk_by (N := ["form", "most", "rows", "number", "point", "left", "count"]) (sc := C8.fnScope (topS 57)) (own := [("point", 4), ("left", 5), ("count", 6)]) (by decide +kernel)) (by decide) (fun _ _ _ _ _ => (pg_two (K := K) (i := 4) (j := 5) rfl rfl sc_points_up_to.nd rfl rfl (Or.inl rfl) (Or.inl rfl))) (fun _ _ _ _ _ => pts_nil) (fun _ _ _ _ _ => (pi_range1 (by rfl) T.m_range (pa_cons (pe_op op_add (pe_op op_fdivW (pv 5) (pv 3)) pe_int) pa_nil))) (fun _ _ _ _ _ => (pg_name (i := 6) sc_points_up_to.nd rfl (Or.inl rfl))) (fun _ _ _ _ _ => pts_nil) (fun _ _ _ _ _ => (pe_tup (pa_cons (pe_op op_cat (pv 4) (pe_lst (pa_cons (pv 6) pa_nil))) (pa_cons (pe_op op_sub (pv 5) (pe_op op_mulW (pv 3) (pv 6))) pa_nil)))))))
    (pss_one (ps_ret (pv 2))))), ?_⟩
    refine join1 (fun σ' H' => ∃ D, σ' = [some (.ref fa), some (.int (most : Nat)), some (.ref D), none, none, none, none] ∧ Same H H' ∧ RwL H' D (rows0 c most)) (fun σ' H' pre => ?_) fun U hU => ?_
    rotate_left
    · refine ⟨_, rfl, fa, _, 0, _, rfl, rfl, .inl (.inl hf'), atI_nat (j := 0) rfl, _, rfl, _, _, rfl, rfl, _, rfl, ?_⟩
      by_cases hc : c ≤ most
      · rw [decide_eq_true (show ((c : Nat) : Int) ≤ ((most : Nat) : Int) by omega)]
        refine iteT ?_
        refine ⟨by show 0 ≤ sizeLine; decide, fun l0 n0 => ?_⟩
        have s0 := sameNew (o := .lst []) n0
        refine ⟨_, rfl, _, rfl, fa, _, 0, _, rfl, rfl, .inl (.inl (s0 _ _ hf')), atI_nat (j := 0) rfl, _, _, rfl, rfl, by show 2 ≤ sizeLine; decide, fun t nt => ⟨by show 1 ≤ sizeLine; decide, fun D nD => ?_⟩⟩
        have st := sameNew (o := .tup [.ref l0, .int (((most : Nat) : Int) - ((c : Nat) : Int))]) nt
        have sD := sameNew (o := .lst [.ref t]) nD
        refine hU _ _ ⟨D, rfl, (s0.trans st).trans sD, [.ref t], upd_same, ?_⟩
        unfold rows0
        rw [if_pos hc]
        refine .cons (sD _ _ (by rw [upd_same]; congr 4; show V.int _ = V.int _; congr 1; show _ = ((most - c : Nat) : Int); omega)) (sD _ _ (st _ _ upd_same)) .nil
      · rw [decide_eq_false (show ¬ ((c : Nat) : Int) ≤ ((most : Nat) : Int) by omega)]
        refine iteF ?_
        refine ⟨by show 0 ≤ sizeLine; decide, fun D nD => ?_⟩
        refine hU _ _ ⟨D, rfl, sameNew nD, [], upd_same, ?_⟩
        unfold rows0
        rw [if_neg hc]
        exact .nil
    obtain ⟨D, rfl, s1, rw0⟩ := pre
    have hf1 : H' fa = some (.tup (natsV (c :: fs))) := s1 _ _ hf'
    refine ⟨_, rfl, 1, rfl, fa, _, 1, rfl, rfl, rfl, hf1, fun p2 H2 s2 h2 => ?_⟩
    have h2' : H2 p2 = some (.tup (natsV fs)) := h2
    refine ⟨p2, rfl, ⟨_, .inl (.inl h2')⟩, for_tup (K := K) (a := p2) (xs := natsV fs) (fun i σ HH => Same H2 HH ∧ ∃ (D : Addr) (y3 y4 y5 y6 : Option V), σ = [some (.ref fa), some (.int (most : Nat)), some (.ref D), y3, y4, y5, y6] ∧ RwL HH D ((fs.take i).foldl (fun rows n => step n rows) (rows0 c most)) ∧ Rb most i ((fs.take i).foldl (fun rows n => step n rows) (rows0 c most)))
      ⟨Same.refl _, D, none, none, none, none, rfl, rw0.same s2, rb_zero⟩ (fun i σ HH _ p => .inl (.inl (p.1 _ _ h2'))) (fun i v σ HH hi pI => ?_) fun σ HH pI => ?_⟩
    · obtain ⟨s3, D, y3, y4, y5, y6, rfl, ⟨vs, hvs, pvs⟩, rb⟩ := pI
      obtain ⟨n, hfn, rfl⟩ : ∃ n, fs[i]? = some n ∧ v = .int (n : Nat) := by
        unfold natsV at hi
        rw [List.getElem?_map] at hi
        cases e : fs[i]? with
        | none => rw [e] at hi; cases hi
        | some n => rw [e] at hi; cases hi; exact ⟨n, rfl, rfl⟩
      obtain ⟨n1, n100⟩ := hn n (List.mem_of_getElem? hfn)
      have i2 : i < 3 := by have := (List.getElem?_eq_some_iff.mp hfn).1; omega
      have eT : (fs.take (i + 1)).foldl (fun rows n => step n rows) (rows0 c most) = step n ((fs.take i).foldl (fun rows n => step n rows) (rows0 c most)) := by
        rw [List.take_succ, hfn, List.foldl_append]
        rfl
      rw [eT]
      generalize (fs.take i).foldl (fun rows n => step n rows) (rows0 c most) = rows at pvs rb
      have lvs := pvs.len
      have rbn := rb_step n1 rb
      have big : (most + 1) ^ (i + 1) ≤ 811801 := Nat.le_trans (Nat.pow_le_pow_right (by omega) (show i + 1 ≤ 3 by omega)) (Nat.le_trans (Nat.pow_le_pow_left (show most + 1 ≤ 61 by omega) 3) (by decide))
      refine ⟨_, rfl, D, rfl, ⟨_, .inl (.inl hvs)⟩, fun Dn hDn => ?_⟩
      refine lc2_list (K := K) (a := D) (xs := vs) (fun ii HB => Same HH HB ∧ ∃ ws, HB Dn = some (.lst ws) ∧ Rws HB ws (step n (rows.take ii)) ∧ Far Dn ws HB) ⟨sameNew hDn, [], upd_same, .nil, fun v hv => (by cases hv)⟩ (fun ii HB _ p => .inl (.inl (p.1 _ _ hvs))) (fun ii v HB hv p => ?_) fun HB p => ?_
      · obtain ⟨sB, ws, hws, pws, far⟩ := p
        obtain ⟨t, l, r, rfl, hr', ht0, hlp0⟩ := pvs.get hv
        have ht := sB _ _ ht0
        refine ⟨t, _, rfl, .inl (.inl ht), rfl, _, _, rfl, _, _, rfl, rfl, rfl, yes_if ?_⟩
        obtain ⟨r2, r1⟩ := rb.2 r (List.mem_of_getElem? hr')
        have cd : CDivW ((r.2 : Nat) : Int) ((n : Nat) : Int) := wide_div (b := 100) (by omega) (by rw [Int.natAbs_natCast]; exact n100) (by decide) (by decide)
        obtain ⟨dv, edv⟩ : ∃ dv, r.2 / n = dv := ⟨_, rfl⟩
        have ed : ((r.2 : Nat) : Int) / ((n : Nat) : Int) = ((dv : Nat) : Int) := by rw [← edv]; rfl
        have dl : dv ≤ r.2 := by rw [← edv]; exact Nat.div_le_self r.2 n
        have dm : dv * n ≤ r.2 := by rw [← edv]; exact Nat.div_mul_le_self r.2 n
        refine ⟨_, rfl, _, rfl, _, _, rfl, rfl, cd, _, _, rfl, rfl, ((r.2 : Nat) : Int) / ((n : Nat) : Int) + 1, rfl, by rw [ed]; omega, by rw [ed]; omega, ?_⟩
        rw [ed, show (((dv : Nat) : Int) + 1).toNat = dv + 1 by omega]
        have eS : step n (rows.take (ii + 1)) = step n (rows.take ii) ++ (List.range (dv + 1)).map fun k => (r.1 ++ [k], r.2 - n * k) := by
          unfold step
          rw [List.take_succ, hr', List.flatMap_append, ← edv]
          simp
        rw [eS]
        refine in_range (fun jj HC => Same HH HC ∧ ∃ ws, HC Dn = some (.lst ws) ∧ Rws HC ws (step n (rows.take ii) ++ (List.range jj).map fun k => (r.1 ++ [k], r.2 - n * k)) ∧ Far Dn ws HC) ⟨sB, ws, hws, by simpa using pws, far⟩ (fun jj HC hj p => ?_) fun HC p => p
        obtain ⟨sC, ws, hws, pws, far⟩ := p
        have hlC : HC l = some (.lst (natsV r.1)) := sC _ _ hlp0
        have lws := pws.len
        refine ⟨rfl, yes_if ?_⟩
        refine ⟨_, rfl, _, rfl, by show 1 ≤ sizeLine; decide, fun l1 n1' => ?_⟩
        have st1 := sameNew (o := .lst [.int (0 + (jj : Int))]) n1'
        refine ⟨l, l1, _, _, rfl, rfl, st1 _ _ hlC, upd_same, by unfold natsV; rw [List.length_map, sizeLine_eq]; simp; omega, fun l2 n2' => ?_⟩
        have st2 := sameNew (o := .lst (natsV r.1 ++ [.int (0 + (jj : Int))])) n2'
        have cm : CMulW ((n : Nat) : Int) (0 + (jj : Int)) := wide_mul (a := 100) (b := 20) (by rw [Int.natAbs_natCast]; exact n100) (by rw [show (0 : Int) + (jj : Int) = ((jj : Nat) : Int) by omega, Int.natAbs_natCast]; exact Nat.lt_of_le_of_lt (show jj ≤ 900 by omega) (by decide)) (by decide) (by decide) (by decide)
        refine ⟨_, rfl, _, rfl, _, rfl, _, _, rfl, rfl, cm, _, _, rfl, rfl, by show 2 ≤ sizeLine; decide, fun t2 nt2 => ?_⟩
        have st3 := sameNew (o := .tup [V.ref l2, V.int (((r.2 : Nat) : Int) - ((n : Nat) : Int) * (0 + (jj : Int)))]) nt2
        have sE := (st1.trans st2).trans st3
        have hwE := sE _ _ hws
        have l2D : l2 ≠ Dn := fun z => by rw [z, st1 _ _ hws] at n2'; cases n2'
        have jd : n * jj ≤ r.2 := by
          have := Nat.mul_le_mul_left n (show jj ≤ dv by omega)
          rw [Nat.mul_comm n dv] at this
          omega
        have ev : V.int (((r.2 : Nat) : Int) - ((n : Nat) : Int) * (0 + (jj : Int))) = V.int ((r.2 - n * jj : Nat) : Int) := by
          congr 1
          rw [Int.zero_add, Int.ofNat_sub jd, Int.natCast_mul]
        have e2 : natsV r.1 ++ [V.int (0 + (jj : Int))] = natsV (r.1 ++ [jj]) := by
          unfold natsV
          rw [List.map_append, Int.zero_add]
          rfl
        have ht2 := upd_same (H := upd (upd HC l1 (.lst [.int (0 + (jj : Int))])) l2 (.lst (natsV r.1 ++ [.int (0 + (jj : Int))]))) (a := t2) (o := .tup [V.ref l2, V.int (((r.2 : Nat) : Int) - ((n : Nat) : Int) * (0 + (jj : Int)))])
        have hl2 := st3 _ _ (upd_same (H := upd HC l1 (.lst [.int (0 + (jj : Int))])) (a := l2) (o := .lst (natsV r.1 ++ [.int (0 + (jj : Int))])))
        refine ⟨ws, hwE, ?_, same_upd2 hDn (sC.trans sE), _, upd_same, ?_, fun v hv => ?_⟩
        · have a := rbn.1
          have b : (step n rows).length = (step n (rows.take (ii + 1))).length + (step n (rows.drop (ii + 1))).length := by
            conv => lhs; rw [← List.take_append_drop (ii + 1) rows]
            unfold step
            rw [List.flatMap_append, List.length_append]
          rw [eS, List.length_append, List.length_map, List.length_range] at b
          rw [lws, List.length_append, List.length_map, List.length_range, sizeLine_eq]
          omega
        · rw [List.range_succ, List.map_append, ← List.append_assoc]
          refine ((pws.same sE).upd hwE fun v hv => ?_).app (.cons (r := (r.1 ++ [jj], r.2 - n * jj)) (tup_upd hwE _ _ (by rw [← ev]; exact ht2)) (show L2.upd _ Dn _ l2 = some (.lst (natsV (r.1 ++ [jj]))) by rw [upd_ne l2D, ← e2]; exact hl2) .nil)
          obtain ⟨t, l, x, e1, e2, ne⟩ := far v hv
          exact ⟨t, l, x, e1, sE _ _ e2, ne⟩
        · rcases List.mem_append.mp hv with z | z
          · obtain ⟨t, l, x, e1, e2, ne⟩ := far v z
            exact ⟨t, l, x, e1, tup_upd hwE _ _ (sE _ _ e2), ne⟩
          · exact ⟨t2, l2, _, List.mem_singleton.mp z, tup_upd hwE _ _ ht2, l2D⟩
      · obtain ⟨sB, ws, hws, pws, far⟩ := p
        rw [lvs, List.take_length] at pws
        exact ⟨s3.trans sB, Dn, _, _, _, _, rfl, ⟨ws, hws, pws⟩, rbn⟩
    · obtain ⟨s3, D, y3, y4, y5, y6, rfl, rl, rb⟩ := pI
      rw [show (natsV fs).length = fs.length by unfold natsV; simp, List.take_length] at rl
      exact ⟨_, rfl, q D _ ((s1.trans s2).trans s3) rl⟩
end
end K41

set_option Elab.async false
set_option linter.all false
set_option maxRecDepth 100000
set_option maxHeartbeats 4000000
namespace K41
open PySem PySem.Spec PyProof.Rows L2 CK SX NM
/-! ### the points up to a total are those of a box that keep it -/
def bstep (N : Nat) (pts : List (List Nat)) : List (List Nat) := pts.flatMap fun pt => (List.range (N + 1)).map fun k => pt ++ [k]
def box : Nat → Nat → List (List Nat)
  | 0, _ => [[]]
  | m + 1, N => bstep N (box m N)
theorem box_len {N : Nat} : ∀ {m : Nat} {pt : List Nat}, pt ∈ box m N → pt.length = m
  | 0, pt, h => by rw [List.mem_singleton.mp h]; rfl
  | m + 1, pt, h => by
    obtain ⟨q, hq, h⟩ := List.mem_flatMap.mp h
    obtain ⟨k, _, rfl⟩ := List.mem_map.mp h
    rw [List.length_append, box_len hq]
    rfl
def keepR (c most : Nat) (fs pt : List Nat) : Option Rw := if c + dot fs pt ≤ most then some (pt, most - (c + dot fs pt)) else none
theorem dot_snoc : ∀ (fs pt : List Nat) (n k : Nat), fs.length = pt.length → dot (fs ++ [n]) (pt ++ [k]) = dot fs pt + n * k
  | [], [], n, k, _ => by simp [dot]
  | [], _ :: _, _, _, h => by simp at h
  | _ :: _, [], _, _, h => by simp at h
  | a :: fs, b :: pt, n, k, h => by
    have := dot_snoc fs pt n k (by simpa using h)
    show a * b + dot (fs ++ [n]) (pt ++ [k]) = a * b + dot fs pt + n * k
    rw [this]
    omega
theorem fm_congr {α β : Type} {f g : α → Option β} : ∀ {l : List α}, (∀ a ∈ l, f a = g a) → l.filterMap f = l.filterMap g
  | [], _ => rfl
  | a :: l, h => by
    rw [List.filterMap_cons, List.filterMap_cons, h a List.mem_cons_self, fm_congr fun b hb => h b (List.mem_cons_of_mem _ hb)]
/-- the counts that fit, out of more -/
theorem range_fit {n left N : Nat} (hn : 1 ≤ n) (hN : left ≤ N) {α : Type} (g : Nat → α) : (List.range (left / n + 1)).map g = (List.range (N + 1)).filterMap fun k => if n * k ≤ left then some (g k) else none := by
  have hd : left / n ≤ N := Nat.le_trans (Nat.div_le_self _ _) hN
  have e : N + 1 = (left / n + 1) + (N - left / n) := by omega
  conv => rhs; rw [e, List.range_add, List.filterMap_append]
  have a : (List.range (left / n + 1)).filterMap (fun k => if n * k ≤ left then some (g k) else none) = (List.range (left / n + 1)).map g := by
    rw [← List.filterMap_eq_map]
    refine fm_congr fun k hk => ?_
    have hk := List.mem_range.mp hk
    have : n * k ≤ left := by
      have := (Nat.le_div_iff_mul_le (show 0 < n from hn)).mp (show k ≤ left / n by omega)
      rw [Nat.mul_comm]
      exact this
    rw [if_pos this]
    rfl
  have b : (List.map (fun x => left / n + 1 + x) (List.range (N - left / n))).filterMap (fun k => if n * k ≤ left then some (g k) else none) = [] := by
    rw [List.filterMap_eq_nil_iff]
    intro k hk
    obtain ⟨x, _, rfl⟩ := List.mem_map.mp hk
    rw [if_neg]
    intro h
    rw [Nat.mul_comm] at h
    have := (Nat.le_div_iff_mul_le (show 0 < n from hn)).mpr h
    omega
  rw [a, b, List.append_nil]
theorem step_keep {c most n : Nat} {fs : List Nat} (hn : 1 ≤ n) {pt : List Nat} (hl : fs.length = pt.length) : step n (keepR c most fs pt).toList = ((List.range (most + 1)).map fun k => pt ++ [k]).filterMap (keepR c most (fs ++ [n])) := by
  rw [List.filterMap_map]
  unfold keepR
  by_cases h : c + dot fs pt ≤ most
  · rw [if_pos h]
    show step n [(pt, most - (c + dot fs pt))] = _
    unfold step
    rw [List.flatMap_cons, List.flatMap_nil, List.append_nil]
    show (List.range ((most - (c + dot fs pt)) / n + 1)).map (fun k => (pt ++ [k], most - (c + dot fs pt) - n * k)) = _
    rw [range_fit hn (Nat.sub_le _ _)]
    refine fm_congr fun k _ => ?_
    show _ = (if c + dot (fs ++ [n]) (pt ++ [k]) ≤ most then some (pt ++ [k], most - (c + dot (fs ++ [n]) (pt ++ [k]))) else none)
    rw [dot_snoc fs pt n k hl]
    by_cases z : n * k ≤ most - (c + dot fs pt)
    · rw [if_pos z, if_pos (by omega)]
      congr 2
      omega
    · rw [if_neg z, if_neg (by omega)]
  · rw [if_neg h]
    show [] = _
    symm
    rw [List.filterMap_eq_nil_iff]
    intro k _
    show (if c + dot (fs ++ [n]) (pt ++ [k]) ≤ most then _ else none) = none
    rw [dot_snoc fs pt n k hl, if_neg (by omega)]
theorem step_all {c most n : Nat} {fs : List Nat} (hn : 1 ≤ n) : ∀ {pts : List (List Nat)}, (∀ pt ∈ pts, fs.length = pt.length) → step n (pts.filterMap (keepR c most fs)) = (bstep most pts).filterMap (keepR c most (fs ++ [n]))
  | [], _ => rfl
  | pt :: pts, h => by
    have ih := step_all (c := c) (most := most) hn (pts := pts) fun q hq => h q (List.mem_cons_of_mem _ hq)
    have e : (pt :: pts).filterMap (keepR c most fs) = (keepR c most fs pt).toList ++ pts.filterMap (keepR c most fs) := by
      rw [List.filterMap_cons]
      cases keepR c most fs pt <;> rfl
    have e2 : ∀ a b : List Rw, step n (a ++ b) = step n a ++ step n b := fun a b => by unfold step; rw [List.flatMap_append]
    rw [e, e2, ih, step_keep hn (h pt List.mem_cons_self)]
    unfold bstep
    rw [List.flatMap_cons, List.filterMap_append]
theorem upTo_box {c most : Nat} : ∀ (gs : List Nat), (∀ n ∈ gs, 1 ≤ n) → ∀ (fs : List Nat), gs.foldl (fun rows n => step n rows) ((box fs.length most).filterMap (keepR c most fs)) = (box (fs ++ gs).length most).filterMap (keepR c most (fs ++ gs))
  | [], _, fs => by rw [List.append_nil]; rfl
  | n :: gs, h, fs => by
    rw [List.foldl_cons, step_all (h n List.mem_cons_self) fun pt hp => (box_len hp).symm]
    have := upTo_box (c := c) (most := most) gs (fun k hk => h k (List.mem_cons_of_mem _ hk)) (fs ++ [n])
    rw [List.length_append] at this
    rw [List.append_assoc] at this
    exact this
theorem upTo_eq {c most : Nat} {fs : List Nat} (h : ∀ n ∈ fs, 1 ≤ n) : upTo c fs most = (box fs.length most).filterMap (keepR c most fs) := by
  have := upTo_box (c := c) (most := most) fs h []
  rw [List.nil_append] at this
  rw [← this]
  unfold upTo rows0
  congr 1
  show _ = [[]].filterMap (keepR c most [])
  unfold keepR
  rw [List.filterMap_cons]
  show (if c ≤ most then [([], most - c)] else []) = _
  by_cases z : c ≤ most
  · rw [if_pos z]
    simp [dot, z]
  · rw [if_neg z]
    simp [dot, z]
end K41

set_option Elab.async false
set_option linter.all false
set_option maxRecDepth 100000
set_option maxHeartbeats 8000000
namespace K41
open PySem PySem.Spec PyProof.Rows L2 CK SX NM
def atR (n : Nat) (rows : List Rw) : List (List Nat) := (rows.filter fun r => decide (r.2 % n = 0)).map fun r => r.1 ++ [r.2 / n]
theorem one_fit {n left N : Nat} (hn : 1 ≤ n) (hN : left ≤ N) : ((List.range (N + 1)).filter fun k => decide (n * k = left)) = if left % n = 0 then [left / n] else [] := by
  by_cases z : left % n = 0
  · rw [if_pos z]
    have hq : n * (left / n) = left := Nat.mul_div_cancel' (Nat.dvd_of_mod_eq_zero z)
    have hd : left / n ≤ N := Nat.le_trans (Nat.div_le_self _ _) hN
    have e : N + 1 = left / n + (1 + (N - left / n)) := by omega
    have nk : ∀ k, n * k = left → k = left / n := fun k h => by rw [← h, Nat.mul_div_cancel_left _ hn]
    conv => lhs; rw [e, List.range_add, List.filter_append, List.range_add, List.map_append, List.filter_append]
    have a : (List.range (left / n)).filter (fun k => decide (n * k = left)) = [] := by
      rw [List.filter_eq_nil_iff]
      intro k hk h
      have := nk k (of_decide_eq_true h)
      have := List.mem_range.mp hk
      omega
    have b : ((List.range 1).map fun x => left / n + x).filter (fun k => decide (n * k = left)) = [left / n] := by
      show [left / n + 0].filter _ = _
      rw [Nat.add_zero, List.filter_cons, if_pos (decide_eq_true hq), List.filter_nil]
    have c : (((List.range (N - left / n)).map fun x => 1 + x).map fun x => left / n + x).filter (fun k => decide (n * k = left)) = [] := by
      rw [List.filter_eq_nil_iff]
      intro k hk h
      obtain ⟨y, hy, rfl⟩ := List.mem_map.mp hk
      obtain ⟨x, _, rfl⟩ := List.mem_map.mp hy
      have := nk _ (of_decide_eq_true h)
      omega
    rw [a, b, c]
    rfl
  · rw [if_neg z, List.filter_eq_nil_iff]
    intro k _ h
    have := of_decide_eq_true h
    exact z (by rw [← this]; exact Nat.mul_mod_right _ _)
theorem at_box {c total n : Nat} {gs : List Nat} (hn : 1 ≤ n) : ∀ {pts : List (List Nat)}, (∀ pt ∈ pts, gs.length = pt.length) → atR n (pts.filterMap (keepR c total gs)) = (bstep total pts).filter fun pt => decide (c + dot (gs ++ [n]) pt = total)
  | [], _ => rfl
  | pt :: pts, h => by
    have ih := at_box (c := c) (total := total) hn (pts := pts) fun q hq => h q (List.mem_cons_of_mem _ hq)
    have hl := h pt List.mem_cons_self
    have e : (pt :: pts).filterMap (keepR c total gs) = (keepR c total gs pt).toList ++ pts.filterMap (keepR c total gs) := by
      rw [List.filterMap_cons]
      cases keepR c total gs pt <;> rfl
    have e2 : ∀ a b : List Rw, atR n (a ++ b) = atR n a ++ atR n b := fun a b => by unfold atR; rw [List.filter_append, List.map_append]
    rw [e, e2, ih]
    unfold bstep
    rw [List.flatMap_cons, List.filter_append]
    congr 1
    rw [List.filter_map]
    have ed : ((fun pt => decide (c + dot (gs ++ [n]) pt = total)) ∘ fun k => pt ++ [k]) = fun k => decide (c + dot gs pt + n * k = total) := funext fun k => by
      show decide (c + dot (gs ++ [n]) (pt ++ [k]) = total) = _
      rw [dot_snoc gs pt n k hl, Nat.add_assoc]
    rw [ed]
    unfold keepR
    by_cases z : c + dot gs pt ≤ total
    · rw [if_pos z]
      have ef : (fun k => decide (c + dot gs pt + n * k = total)) = fun k => decide (n * k = total - (c + dot gs pt)) := funext fun k => decide_eq_decide.mpr ⟨fun h => by omega, fun h => by omega⟩
      rw [ef, one_fit hn (Nat.sub_le _ _)]
      show atR n [(pt, total - (c + dot gs pt))] = _
      unfold atR
      rw [List.filter_cons, List.filter_nil]
      by_cases y : (total - (c + dot gs pt)) % n = 0
      · rw [if_pos y, if_pos (decide_eq_true y)]
        rfl
      · rw [if_neg y, if_neg (fun h => y (of_decide_eq_true h))]
        rfl
    · rw [if_neg z]
      have : (List.range (total + 1)).filter (fun k => decide (c + dot gs pt + n * k = total)) = [] := by
        rw [List.filter_eq_nil_iff]
        intro k _ h
        have := of_decide_eq_true h
        omega
      rw [this]
      rfl
/-- the points at a total: those of the box that have it -/
def ptsAt (c total : Nat) (fs : List Nat) : List (List Nat) := (box fs.length total).filter fun pt => decide (c + dot fs pt = total)
theorem ptsAt_nil {c total : Nat} : ptsAt c total [] = if c = total then [[]] else [] := by
  unfold ptsAt
  show [[]].filter _ = _
  rw [List.filter_cons, List.filter_nil]
  by_cases z : c = total
  · rw [if_pos z, if_pos (by simp [dot, z])]
  · rw [if_neg z, if_neg (by simp [dot, z])]
theorem ptsAt_snoc {c total n : Nat} {gs : List Nat} (hn : 1 ≤ n) (hg : ∀ k ∈ gs, 1 ≤ k) : ptsAt c total (gs ++ [n]) = atR n (upTo c gs total) := by
  rw [upTo_eq hg, at_box hn fun pt hp => (box_len hp).symm]
  unfold ptsAt
  rw [List.length_append]
  rfl
end K41

set_option Elab.async false
set_option linter.all false
set_option maxRecDepth 100000
set_option maxHeartbeats 8000000
namespace K41
open PySem PySem.Spec PyProof.Rows L2 CK SX NM
/-- lists of numbers in the heap -/
inductive Pq (H : Hp) : List V → List (List Nat) → Prop
  | nil : Pq H [] []
  | cons {l : Addr} {pt : List Nat} {vs : List V} {ps : List (List Nat)} : LP H l pt → Pq H vs ps → Pq H (.ref l :: vs) (pt :: ps)
theorem Pq.same {H H' : Hp} {vs : List V} {ps : List (List Nat)} (h : Pq H vs ps) (s : Same H H') : Pq H' vs ps := by
  induction h with
  | nil => exact .nil
  | cons p _ ih => exact .cons (s _ _ p) ih
theorem Pq.len {H : Hp} {vs : List V} {ps : List (List Nat)} (h : Pq H vs ps) : vs.length = ps.length := by
  induction h with
  | nil => rfl
  | cons _ _ ih => simp [ih]
theorem Pq.app {H : Hp} {vs us : List V} {ps qs : List (List Nat)} (h : Pq H vs ps) (g : Pq H us qs) : Pq H (vs ++ us) (ps ++ qs) := by
  induction h with
  | nil => exact g
  | cons p _ ih => exact .cons p ih
theorem Pq.upd {H : Hp} {D : Addr} {o : HO} {vs : List V} {ps : List (List Nat)} (h : Pq H vs ps) (ne : ∀ l, V.ref l ∈ vs → l ≠ D) : Pq (L2.upd H D o) vs ps := by
  induction h with
  | nil => exact .nil
  | cons p _ ih => exact .cons (show L2.upd H D o _ = _ by rw [upd_ne (ne _ List.mem_cons_self)]; exact p) (ih fun l hl => ne l (List.mem_cons_of_mem _ hl))
def PqL (H : Hp) (l : Addr) (ps : List (List Nat)) : Prop := ∃ vs, H l = some (.lst vs) ∧ Pq H vs ps
/-- a new list of new lists of numbers -/
def NewL (H0 H : Hp) (D : Addr) (ps : List (List Nat)) : Prop := H0 D = none ∧ ∃ vs, H D = some (.lst vs) ∧ Pq H vs ps ∧ ∀ l, V.ref l ∈ vs → l ≠ D ∧ H0 l = none
theorem cut_init (xs : List V) (v : V) : cutV (xs ++ [v]) none (some (-1)) = xs := by
  unfold cutV
  have e : HT.sIx (xs ++ [v]).length (xs ++ [v]).length (some (-1)) = xs.length := by
    unfold HT.sIx
    simp
    omega
  have e0 : HT.sIx (xs ++ [v]).length 0 none = 0 := rfl
  rw [e, e0, List.drop_zero, Nat.sub_zero, List.take_left]
theorem rb_fold {most : Nat} : ∀ (gs : List Nat) (rows : List Rw) (i : Nat), (∀ n ∈ gs, 1 ≤ n) → Rb most i rows → Rb most (i + gs.length) (gs.foldl (fun rows n => step n rows) rows)
  | [], _, _, _, h => h
  | n :: gs, rows, i, hn, h => by
    have := rb_fold gs (step n rows) (i + 1) (fun k hk => hn k (List.mem_cons_of_mem _ hk)) (rb_step (hn n List.mem_cons_self) h)
    rw [List.foldl_cons, List.length_cons, show i + (gs.length + 1) = i + 1 + gs.length by omega]
    exact this
section
variable {P : Program} {w : World} {K : PySem.W.Frag} {mg : Str → Option Value} {base : Heap} {C : Addr}
end
end K41

set_option Elab.async false
set_option linter.all false
set_option maxRecDepth 100000
set_option maxHeartbeats 8000000
namespace K41
open PySem PySem.Spec PyProof.Rows L2 CK SX NM
section
variable {P : Program} {w : World} {K : PySem.W.Frag} {mg : Str → Option Value} {base : Heap} {C : Addr}
def sp_bound (C : Addr) : Sp := fun vs H Q _ => ∃ (a : Addr) (m : Nat) (ps : List Pn), vs = [.ref a] ∧ OT C H a m ps ∧ m ≤ 3 ∧ (∀ i, i < m → ukn ps i = true) ∧ ∀ H', Same H H' → Q .non H'
theorem c_need_bound_text (T : Txt K mg C) : C8.Cal P w K mg base 5 "need_bound_text" (sp_bound C) [] := by
  refine calF T.d_need_bound_text sc_need_bound_text (fun vs H Q E h => ?_) (fun f cdv A outer s H vs Q E hr h => ?_)
  · obtain ⟨_, _, _, rfl, _⟩ := h; rfl
  · obtain ⟨a, m, ps, rfl, oa, m3, hu, q⟩ := h
    obtain ⟨l0, ⟨dx, ha⟩, ga⟩ := id oa
    refine ⟨_, (pss_cons (ps_expr (C8.pe_c (c_need_text T) hr (by decide) (by rfl) (pa_cons (pv 0) pa_nil)))
    (pss_one (ps_if (pt_cmpR op_lt (pe_callB call_len_seq (by rfl) T.m_len (by decide +kernel) (pa_cons (C8.pe_c (c_unknowns T) hr (by decide) (by rfl) (pa_cons (pv 0) pa_nil)) pa_nil)) (C8.pe_mt0 (m_OpenText_many T) hr (by decide) (pv 0)) (nomark _))
    (pss_one ps_never)
    pss_nil))), ?_⟩
    refine ⟨_, rfl, a, m, ps, rfl, oa, _, rfl, a, m, ps, rfl, oa, m3, fun D H1 s1 hD => ?_⟩
    have ef : ((List.range m).filter (ukn ps)).map (fun i : Nat => V.int (i : Nat)) = (List.range m).map fun i : Nat => V.int (i : Nat) := by
      rw [List.filter_eq_self.mpr fun i hi => hu i (List.mem_range.mp hi)]
    rw [ef] at hD
    refine ⟨D, _, rfl, .inl (.inl (.inl hD)), _, rfl, a, dx, _, rfl, s1 _ _ ha, (OF_no l0 m).2, a, m, ps, rfl, oa.same s1, _, _, rfl, rfl, _, rfl, ?_⟩
    rw [decide_eq_false (show ¬ ((((List.range m).map fun i : Nat => V.int (i : Nat)).length : Nat) : Int) < ((m : Nat) : Int) by rw [List.length_map, List.length_range]; omega)]
    exact iteF (q H1 s1)
/-- the points at which a text writes a word -/
def ptsOf (m : Nat) (ps : List Pn) (z : List Nat) : List (List Nat) := (box m z.length).filter fun pt => decide (NM.wr pt ps = z)
end
end K41

set_option Elab.async false
set_option linter.all false
set_option maxRecDepth 100000
set_option maxHeartbeats 8000000
namespace K41
open PySem PySem.Spec PyProof.Rows L2 CK SX NM
theorem val_zero (g : F) (m : Nat) : valF g (List.replicate m 0) = g.headD 0 := by
  unfold valF
  have : ∀ (l : List Nat) (k : Nat), dot l (List.replicate k 0) = 0 := fun l => by
    induction l with
    | nil => intro k; cases k <;> rfl
    | cons a l ih =>
      intro k
      cases k with
      | zero => rfl
      | succ k => rw [List.replicate_succ, dot, ih]; rfl
  rw [this]
  rfl
theorem dot_pick : ∀ (n : Nat) (g : Nat → Nat) (o c : Nat) (pt : List Nat), (∀ p, g p = if p = o then c else 0) → o < n → n = pt.length → dot ((List.range n).map g) pt = c * pt.getD o 0
  | 0, _, _, _, _, _, h, _ => by omega
  | n + 1, g, o, c, [], _, _, h => by simp at h
  | n + 1, g, o, c, y :: pt, hg, ho, hn => by
    have e : (List.range (n + 1)).map g = g 0 :: (List.range n).map fun i => g (i + 1) := by
      rw [List.range_succ_eq_map, List.map_cons, List.map_map]
      rfl
    rw [e, dot]
    cases o with
    | zero =>
      have z : dot ((List.range n).map fun i => g (i + 1)) pt = 0 := by
        have : (List.range n).map (fun i => g (i + 1)) = List.replicate n 0 := by
          rw [List.eq_replicate_iff]
          refine ⟨by simp, fun x hx => ?_⟩
          obtain ⟨i, _, rfl⟩ := List.mem_map.mp hx
          rw [hg, if_neg (by omega)]
        rw [this, dot_zero]
      rw [z, hg 0, if_pos rfl]
      rfl
    | succ o =>
      rw [dot_pick n (fun i => g (i + 1)) o c pt (fun p => by rw [hg]; by_cases z : p = o <;> simp [z]) (by omega) (by simpa using hn), hg 0, if_neg (by omega)]
      simp
def eP (i m : Nat) : List Nat := (List.range m).map fun j => if j = i then 1 else 0
theorem dot_comm : ∀ f g : List Nat, dot f g = dot g f
  | [], [] => rfl
  | [], _ :: _ => rfl
  | _ :: _, [] => rfl
  | a :: f, b :: g => by rw [dot, dot, dot_comm f g, Nat.mul_comm]
theorem val_eP {m i : Nat} {f : F} (hf : f.length = m + 1) (hi : i < m) : valF f (eP i m) = f.headD 0 + f.getD (i + 1) 0 := by
  cases f with
  | nil => simp at hf
  | cons c t =>
    have lt : t.length = m := by simpa using hf
    unfold valF eP
    show c + dot t _ = c + t.getD i 0
    rw [dot_comm, dot_pick m (fun j => if j = i then 1 else 0) i 1 t (fun p => rfl) hi lt.symm, Nat.one_mul]
theorem len_eP {m i : Nat} (hi : i < m) : ∀ ns : List Pn, LenF m ns → (wr (eP i m) ns).length = (wr (List.replicate m 0) ns).length + (ns.map fun p => p.1.length * p.2.getD (i + 1) 0).sum
  | [], _ => by simp [wr]
  | p :: r, h => by
    have ih := len_eP hi r fun q hq => h q (List.mem_cons_of_mem _ hq)
    have e1 : (wrt (eP i m) p).length = p.1.length * valF p.2 (eP i m) := WM.pw_len _ _
    have e2 : (wrt (List.replicate m 0) p).length = p.1.length * valF p.2 (List.replicate m 0) := WM.pw_len _ _
    rw [val_eP (h p List.mem_cons_self) hi, Nat.mul_add] at e1
    rw [val_zero] at e2
    rw [wr, wr, List.length_append, List.length_append, e1, e2, ih, List.map_cons, List.sum_cons]
    omega
theorem sum_zero : ∀ l : List Nat, l.sum = 0 ↔ ∀ x ∈ l, x = 0
  | [] => by simp
  | a :: l => by
    rw [List.sum_cons, List.forall_mem_cons, ← sum_zero l]
    omega
theorem ukn_iff {m i : Nat} {ns : List Pn} (h : Nm m ns) (hi : i < m) : ukn ns i = true ↔ (wr (eP i m) ns).length ≠ (wr (List.replicate m 0) ns).length := by
  rw [len_eP hi ns fun p hp => (h.all p hp).len]
  have e : (ns.map fun p => p.1.length * p.2.getD (i + 1) 0).sum = 0 ↔ ukn ns i = false := by
    rw [sum_zero]
    unfold ukn
    rw [List.any_eq_false]
    constructor
    · intro z x hx
      obtain ⟨p, hp, rfl⟩ := List.mem_map.mp hx
      obtain ⟨hp, _⟩ := List.mem_filter.mp hp
      have := z _ (List.mem_map.mpr ⟨p, hp, rfl⟩)
      have n0 := List.length_pos_iff.mpr (h.all p hp).ne
      rcases Nat.mul_eq_zero.mp this with y | y
      · omega
      · rw [y]; decide
    · intro z x hx
      obtain ⟨p, hp, rfl⟩ := List.mem_map.mp hx
      show p.1.length * p.2.getD (i + 1) 0 = 0
      cases y : isPow p with
      | true =>
        have := z _ (List.mem_map.mpr ⟨p, List.mem_filter.mpr ⟨hp, y⟩, rfl⟩)
        have : p.2.getD (i + 1) 0 = 0 := by simpa using this
        rw [this]
        rfl
      | false =>
        rw [(h.all p hp).fix y]
        show p.1.length * (List.replicate m 0).getD i 0 = 0
        rw [List.getD_eq_getElem?_getD, List.getElem?_replicate]
        split <;> simp
  cases y : ukn ns i with
  | true =>
    have : ¬ _ := fun z => by rw [e.mp z] at y; cases y
    constructor
    · intro _ z
      exact this (by omega)
    · intro _; rfl
  | false =>
    have := e.mpr y
    constructor
    · intro z; cases z
    · intro z; exact absurd (by omega) z

theorem lenP_part {m i : Nat} {ps : List Pn} (l : LenF m ps) (hi : i < m) : (wr (eP i m) ps).length = (wr (List.replicate m 0) ps).length + (lenP m ps).getD (i + 1) 0 := by
  rw [← val_lenP l, ← val_lenP l, val_eP (len_lenP l) hi, val_zero]
theorem lenP_one {m i : Nat} {ps : List Pn} (h : Nm m ps) (hi : i < m) (hu : ukn ps i = true) : 1 ≤ (lenP m ps).getD (i + 1) 0 := by
  have a := (ukn_iff h hi).mp hu
  have b := lenP_part (fun p hp => (h.all p hp).len) hi
  omega
theorem box_mem {N : Nat} : ∀ {m : Nat} {pt : List Nat}, pt ∈ box m N → ∀ x ∈ pt, x ≤ N
  | 0, pt, h, x, hx => by
    rw [List.mem_singleton.mp h] at hx
    cases hx
  | m + 1, pt, h, x, hx => by
    obtain ⟨q, hq, h⟩ := List.mem_flatMap.mp h
    obtain ⟨k, hk, rfl⟩ := List.mem_map.mp h
    have := List.mem_range.mp hk
    rcases List.mem_append.mp hx with y | y
    · exact box_mem hq x y
    · rw [List.mem_singleton.mp y]; omega
theorem box_card (N : Nat) : ∀ m : Nat, (box m N).length = (N + 1) ^ m
  | 0 => rfl
  | m + 1 => by
    have key : ∀ l : List (List Nat), (bstep N l).length = l.length * (N + 1) := fun l => by
      induction l with
      | nil => simp [bstep]
      | cons r rs ih =>
        unfold bstep at ih ⊢
        rw [List.flatMap_cons, List.length_append, ih, List.length_map, List.length_range, List.length_cons, Nat.succ_mul]
        omega
    show (bstep N (box m N)).length = _
    rw [key, box_card N m, Nat.pow_succ]
theorem box_few {N m : Nat} (hN : N ≤ 200) (hm : m ≤ 3) : (box m N).length < sizeLine := by
  rw [box_card, sizeLine_eq]
  have a : (N + 1) ^ m ≤ (N + 1) ^ 3 := Nat.pow_le_pow_right (by omega) hm
  have b : (N + 1) ^ 3 ≤ 201 ^ 3 := Nat.pow_le_pow_left (by omega) 3
  have c : 201 ^ 3 < 16777216 := by decide
  omega
/-- the points at which a text writes a word, of those with its length -/
theorem pts_len {m : Nat} {ps : List Pn} {z : List Nat} {c : Nat} {fs : List Nat} (l : LenF m ps) (e : lenP m ps = c :: fs) : (ptsAt c z.length fs).filter (fun pt => decide (wr pt ps = z)) = ptsOf m ps z := by
  have lf : fs.length = m := by
    have := len_lenP l
    rw [e] at this
    simpa using this
  unfold ptsAt ptsOf
  rw [List.filter_filter, lf]
  refine List.filter_congr fun pt _ => ?_
  have a := val_lenP l pt
  rw [e] at a
  have a : c + dot fs pt = (wr pt ps).length := a
  by_cases h : wr pt ps = z
  · rw [decide_eq_true h, Bool.true_and, a, h, decide_eq_true rfl]
  · rw [decide_eq_false h, Bool.false_and]
theorem Pq.get {H : Hp} {vs : List V} {ps : List (List Nat)} (h : Pq H vs ps) : ∀ {i : Nat} {v : V}, vs[i]? = some v → ∃ l pt, v = .ref l ∧ ps[i]? = some pt ∧ LP H l pt := by
  induction h with
  | nil => intro i v hi; simp at hi
  | cons p _ ih =>
    intro i v hi
    cases i with
    | zero => cases hi; exact ⟨_, _, rfl, rfl, p⟩
    | succ i => exact ih hi
section
variable {P : Program} {w : World} {K : PySem.W.Frag} {mg : Str → Option Value} {base : Heap} {C : Addr}
end
end K41

set_option Elab.async false
set_option linter.all false
set_option maxRecDepth 100000
set_option maxHeartbeats 4000000
namespace K41
open PySem PySem.Spec PyProof.Rows L2 CK SX NM
section
variable {P : Program} {w : World} {K : PySem.W.Frag} {mg : Str → Option Value} {base : Heap} {C : Addr}
/-! ### the law's own defs -/
theorem fm0 {i j : Int} (h : 0 < j) : 0 ≤ i.fmod j := Int.fmod_nonneg_of_pos i h
theorem fm1 {i j : Int} (h : 0 < j) : i.fmod j < j := Int.fmod_lt_of_pos i h
theorem ab {i : Int} {k : Nat} (h0 : 0 ≤ i) (h : i < 2 ^ k) : i.natAbs < 2 ^ k := by
  have e : ((2 ^ k : Nat) : Int) = 2 ^ k := by simp
  omega
def sp_hash : Sp := fun vs H Q _ => ∃ s i : Int, vs = [.int s, .int i] ∧ 0 ≤ s ∧ s < 2 ^ 31 ∧ 0 ≤ i ∧ i < 2 ^ 41 ∧ ∀ r : Int, 0 ≤ r → r < 2 ^ 31 → Q (.int r) H
theorem c_law_hash (T : Txt K mg C) : C8.Cal P w K mg base 1 "_law_hash" sp_hash [] := by
  refine calF T.d_law_hash sc_law_hash (fun vs H Q E h => ?_) (fun f cdv A outer s H vs Q E hr h => ?_)
  · obtain ⟨_, _, rfl, _⟩ := h; rfl
  · obtain ⟨z, i, rfl, h0, h1, h2, h3, q⟩ := h
    refine ⟨_, (pss_cons (ps_set (i := 2) sc_law_hash.nd rfl (Or.inl rfl) (pe_op op_modN (pe_callTy call_int1 (by rfl) T.m_int (by decide +kernel) (pa_cons (pe_op op_add (pe_op op_add (pe_op op_add (pe_op op_mulW (pv 0) pe_int) (pe_op op_mulW (pe_op op_mulW pe_int (pv 1)) (pv 1))) (pe_op op_mulW pe_int (pv 1))) pe_int) pa_nil)) pe_int))
    (pss_cons (ps_set (i := 2) sc_law_hash.nd rfl (Or.inl rfl) (pe_op op_modN (pe_callTy call_int1 (by rfl) T.m_int (by decide +kernel) (pa_cons (pe_op op_add (pe_op op_add (pe_op op_mulW (pv 2) (pv 2)) pe_int) (pe_op op_mulW pe_int (pv 1))) pa_nil)) pe_int))
    (pss_one (ps_ret (pe_op op_modN (pe_callTy call_int1 (by rfl) T.m_int (by decide +kernel) (pa_cons (pe_op op_mulW (pv 2) pe_int) pa_nil)) pe_int))))), ?_⟩
    have a1 : z.natAbs < 2 ^ 100 := ab h0 (by omega)
    have a2 : i.natAbs < 2 ^ 100 := ab h2 (by omega)
    have a3 : ((15487469 : Int)).natAbs < 2 ^ 100 := by decide
    have a4 := wide_lt a3 a2
    refine ⟨_, rfl, z, _, rfl, rfl, wide_mul a1 (show ((1212121 : Int)).natAbs < 2 ^ 100 by decide) (by decide) (by decide) (by decide), ?_⟩
    refine ⟨_, rfl, _, i, rfl, rfl, wide_mul a3 a2 (by decide) (by decide) (by decide), _, rfl, _, i, rfl, rfl, wide_mul a4 a2 (by decide) (by decide) (by decide), _, _, rfl, rfl, ?_⟩
    refine ⟨_, rfl, _, i, rfl, rfl, wide_mul (show ((227 : Int)).natAbs < 2 ^ 100 by decide) a2 (by decide) (by decide) (by decide), _, _, rfl, rfl, _, _, rfl, rfl, .inl ⟨_, rfl, _, _, rfl, rfl, (by decide : (2147483629 : Int) ≠ 0), ?_⟩⟩
    obtain ⟨m, hm⟩ : ∃ m, (z * 1212121 + 15487469 * i * i + 227 * i + 41).fmod 2147483629 = m := ⟨_, rfl⟩
    have m0 : 0 ≤ m := by rw [← hm]; exact fm0 (by decide)
    have m1 : m < 2147483629 := by rw [← hm]; exact fm1 (by decide)
    have a5 : m.natAbs < 2 ^ 100 := ab m0 (by omega)
    refine ⟨_, rfl, _, rfl, m, m, congrArg V.int hm, congrArg V.int hm, wide_mul a5 a5 (by decide) (by decide) (by decide), _, _, rfl, rfl, ?_⟩
    refine ⟨_, rfl, _, i, rfl, rfl, wide_mul (show ((52711 : Int)).natAbs < 2 ^ 100 by decide) a2 (by decide) (by decide) (by decide), _, _, rfl, rfl, .inl ⟨_, rfl, _, _, rfl, rfl, (by decide : (2147483587 : Int) ≠ 0), ?_⟩⟩
    obtain ⟨k, hk⟩ : ∃ k, (m * m + 86028121 + 52711 * i).fmod 2147483587 = k := ⟨_, rfl⟩
    have k0 : 0 ≤ k := by rw [← hk]; exact fm0 (by decide)
    have k1 : k < 2147483587 := by rw [← hk]; exact fm1 (by decide)
    have a6 : k.natAbs < 2 ^ 100 := ab k0 (by omega)
    refine ⟨_, rfl, k, _, congrArg V.int hk, rfl, wide_mul a6 (show ((39373 : Int)).natAbs < 2 ^ 100 by decide) (by decide) (by decide) (by decide), .inl ⟨_, rfl, _, _, rfl, rfl, (by decide : (2147483647 : Int) ≠ 0), ?_⟩⟩
    exact q _ (fm0 (by decide)) (Int.lt_trans (fm1 (by decide)) (by decide))
def sp_random : Sp := fun vs H Q _ => ∃ (g : Addr) (b : Int) (n : Nat), vs = [.ref g, .int b] ∧ Gn (n + 1) H g ∧ 1 ≤ b ∧ b < 2 ^ 200 ∧ ∀ (r : Int) H', SameX g H H' → Gn n H' g → 0 ≤ r → r < b → Q (.int r) H'
theorem pow32 (i : Nat) : (2 : Int) ^ (32 * (i + 1)) = 2 ^ (32 * i) * 4294967296 := by
  rw [Nat.mul_add, Int.pow_add]
  rfl
theorem pow_ge1 (i : Nat) : (1 : Int) ≤ 2 ^ i := by
  have := Int.pow_pos (n := 2) (m := i) (by decide)
  omega
theorem c_law_random (T : Txt K mg C) : C8.Cal P w K mg base 2 "_law_random" sp_random [] := by
  refine calF T.d_law_random sc_law_random (fun vs H Q E h => ?_) (fun f cdv A outer s H vs Q E hr h => ?_)
  · obtain ⟨_, _, _, rfl, _⟩ := h; rfl
  · obtain ⟨g, b, n, rfl, G, hb, hb2, q⟩ := h
    refine ⟨_, (pss_cons (ps_if (pt_cmpR op_gt (pe_ix ix_list (pv 0) pe_int (fun _ _ => rfl)) pe_int (nomark _))
    (pss_cons (ps_set (i := 2) sc_law_random.nd rfl (Or.inl rfl) (pe_op op_modN (pe_callTy call_int1 (by rfl) T.m_int (by decide +kernel) (pa_cons (pe_ix ix_list (pv 0) pe_int (fun _ _ => rfl)) pa_nil)) (pv 1)))
    (pss_cons (ps_asg (pe_op op_fdivW (pe_ix ix_list (pv 0) pe_int (fun _ _ => rfl)) (pv 1)) (pg_sub (pv 0) pe_int set_list))
    (pss_one (ps_ret (pv 2)))))
    pss_nil)
    (pss_cons (ps_set (i := 2) sc_law_random.nd rfl (Or.inl rfl) pe_int)
    (pss_cons (ps_for PassesOwn.never rfl (pi_range1 (by rfl) T.m_range (pa_cons (pe_op op_add pe_int (pe_op op_fdivW (pe_bits (pv 1)) pe_int)) pa_nil)) (pg_name (i := 3) sc_law_random.nd rfl (Or.inl rfl))
    (pss_cons (ps_asg (pe_op op_add (pe_ix ix_list (pv 0) pe_int (fun _ _ => rfl)) pe_int) (pg_sub (pv 0) pe_int set_list))
    (pss_one (ps_set (i := 2) sc_law_random.nd rfl (Or.inl rfl) (pe_op op_add (pe_op op_mulW (pv 2) pe_int) (C8.pe_c (c_law_hash T) hr (by decide) (by rfl) (pa_cons (pe_ix ix_list (pv 0) pe_int (fun _ _ => rfl)) (pa_cons (pe_ix ix_list (pv 0) pe_int (fun _ _ => rfl)) pa_nil))))))))
    (pss_one (ps_ret (pe_op op_modN (pe_callTy call_int1 (by rfl) T.m_int (by decide +kernel) (pa_cons (pv 2) pa_nil)) (pv 1))))))), ?_⟩
    obtain ⟨x, y, c, hg, x0, y0, y1, c0, c1⟩ := G
    refine ⟨_, rfl, g, _, 0, .int x, rfl, rfl, .inl (.inl hg), atI_nat (j := 0) rfl, x, 0, rfl, rfl, _, rfl, ite2 (fun e => ?_) (fun e => ?_)⟩
    · -- a digit
      refine ⟨_, rfl, g, _, 0, .int x, rfl, rfl, .inl (.inl hg), atI_nat (j := 0) rfl, .inl ⟨x, rfl, _, rfl, x, b, rfl, rfl, by omega, ?_⟩⟩
      refine ⟨_, rfl, g, _, 0, .int x, rfl, rfl, .inl (.inl hg), atI_nat (j := 0) rfl, _, rfl, x, b, rfl, rfl, wide_div (b := 200) (by omega) (ab (by omega) hb2) (by decide) (by decide), _, rfl, g, _, 0, 0, rfl, rfl, hg, rfl, ?_⟩
      exact ⟨_, rfl, q _ _ sameX_upd ⟨x / b, y, c, upd_same, Int.ediv_nonneg x0 (by omega), y0, y1, c0, by omega⟩ (fm0 (by omega)) (fm1 (by omega))⟩
    · -- by the hash
      have ib : Builtin.Int.intBits b ≤ 200 := intBits_le (ab (by omega) hb2)
      have tn : (1 + ((Builtin.Int.intBits b : Nat) : Int) / 30).toNat ≤ 7 := by omega
      refine ⟨_, rfl, b, rfl, _, _, rfl, rfl, wide_div (b := 200) (by decide) (by decide) (by decide) (by decide), _, _, rfl, rfl, _, rfl, by omega, by omega, ?_⟩
      refine for_it walk_range (fun i σ H3 => ∃ (d : Int) (y3 : Option V) (c3 : Int), σ = [some (.ref g), some (.int b), some (.int d), y3] ∧ SameX g H H3 ∧ H3 g = some (.lst [.int x, .int y, .int c3]) ∧ c3 = c + i ∧ 0 ≤ d ∧ d < 2 ^ (32 * i) ∧ i ≤ 7)
        ⟨0, none, c, rfl, .refl _ _, hg, by simp, Int.le_refl _, by decide, by decide⟩ (fun _ _ _ _ _ => True.intro) (fun i v σ H3 H4 hi p yy => ?_) fun σ H3 p => ?_
      · obtain ⟨d, y3, c3, rfl, s3, g3, ec, d0, d1, i7⟩ := p
        obtain ⟨rfl, rfl⟩ := yy
        have i6 : i ≤ 6 := by omega
        have u1 : (upd H4 g (.lst [.int x, .int y, .int (c3 + 1)])) g = some (.lst [.int x, .int y, .int (c3 + 1)]) := upd_same
        refine ⟨_, rfl, g, _, 2, .int c3, rfl, rfl, .inl (.inl g3), atI_nat (j := 2) rfl, _, _, rfl, rfl, _, rfl, g, _, 2, 2, rfl, rfl, g3, rfl, ?_⟩
        have ad : d.natAbs < 2 ^ (32 * i + 1) := ab d0 (Int.lt_of_lt_of_le d1 (by rw [Int.pow_succ]; have := pow_ge1 (32 * i); omega))
        refine ⟨_, rfl, d, _, rfl, rfl, wide_mul ad (show ((2147483587 : Int)).natAbs < 2 ^ 100 by decide) (by omega) (by decide) (by omega), ?_⟩
        refine ⟨_, rfl, g, _, 1, .int y, rfl, rfl, .inl (.inl u1), atI_nat (j := 1) rfl, _, rfl, g, _, 2, .int (c3 + 1), rfl, rfl, .inl (.inl u1), atI_nat (j := 2) rfl, y, c3 + 1, rfl, y0, y1, by omega, by omega, fun r r0 r1 => ⟨_, _, rfl, rfl, ?_⟩⟩
        refine ⟨_, _, c3 + 1, rfl, fun z o nz e => by rw [upd_ne nz]; exact s3 z o nz e, u1, by omega, by have : 0 ≤ d * 2147483587 := Int.mul_nonneg d0 (by decide); omega, ?_, by omega⟩
        rw [pow32]
        have := pow_ge1 (32 * i)
        omega
      · obtain ⟨d, y3, c3, rfl, s3, g3, ec, d0, d1, i7⟩ := p
        refine ⟨_, rfl, .inl ⟨d, rfl, _, rfl, d, b, rfl, rfl, by omega, ?_⟩⟩
        exact q _ _ s3 ⟨x, y, c3, g3, x0, y0, y1, by omega, by omega⟩ (fm0 (by omega)) (fm1 (by omega))
def sp_cell (K : PySem.W.Frag) : Sp := fun vs H Q _ => ∃ (a : Addr) (ns : List Int) (i : Nat), vs = [.ref a, .int i] ∧ SqL K H a (ns.map V.int) ∧ ∀ (r : Int) H', Same H H' → Q (.int r) H'
theorem c_law_cell (T : Txt K mg C) : C8.Cal P w K mg base 1 "_law_cell" (sp_cell K) [] := by
  refine calF T.d_law_cell sc_law_cell (fun vs H Q E h => ?_) (fun f cdv A outer s H vs Q E hr h => ?_)
  · obtain ⟨_, _, _, rfl, _⟩ := h; rfl
  · obtain ⟨a, ns, i, rfl, ha, q⟩ := h
    refine ⟨_, (pss_cons (ps_if (pt_cmpR op_lt (pv 1) (pe_callB call_len_seq (by rfl) T.m_len (by decide +kernel) (pa_cons (pv 0) pa_nil)) (nomark _))
    (pss_one (ps_ret (pe_ix ix_list (pv 0) (pv 1) (fun _ _ => rfl))))
    pss_nil)
    (pss_one (ps_ret (pe_op op_modN (pe_callB (cr_sum rfl) (by rfl) T.m_sum (by decide +kernel) (pa_cons (pe_slice sl_list (pv 0) po_none (po_some pe_int)) pa_nil)) pe_int)))), ?_⟩
    refine ⟨_, rfl, _, rfl, a, _, rfl, .inl ha, _, _, rfl, rfl, _, rfl, ite2 (fun e => ?_) (fun e => ?_)⟩
    · have e' := of_decide_eq_true e
      rw [List.length_map] at e'
      have hi : i < ns.length := by omega
      refine ⟨_, rfl, _, rfl, a, _, i, .int ns[i], rfl, rfl, ha, atI_nat ?_, q _ H (Same.refl _)⟩
      rw [List.getElem?_map, List.getElem?_eq_getElem hi]
      rfl
    · refine ⟨_, rfl, 1, rfl, a, _, rfl, ha, fun p hp => ?_⟩
      refine ⟨p, ns.take 1, rfl, .inl (.inl ?_), _, _, rfl, rfl, (by decide : (1000003 : Int) ≠ 0), q _ _ (sameNew hp)⟩
      rw [upd_same, show ((1 : Int)) = ((1 : Nat) : Int) from rfl, cutV_take, List.map_take]
def sp_generator (K : PySem.W.Frag) : Sp := fun vs H Q _ => ∃ (a : Addr) (ns : List Int) (i : Nat), vs = [.ref a, .int i] ∧ SqL K H a (ns.map V.int) ∧ i ≤ 10 ∧ ∀ g H1 H', Same H H1 → H1 g = none → Same H1 H' → Gn 100000 H' g → Q (.ref g) H'
theorem c_law_generator (T : Txt K mg C) : C8.Cal P w K mg base 2 "_law_generator" (sp_generator K) [] := by
  refine calF T.d_law_generator sc_law_generator (fun vs H Q E h => ?_) (fun f cdv A outer s H vs Q E hr h => ?_)
  · obtain ⟨_, _, _, rfl, _⟩ := h; rfl
  · obtain ⟨a, ns, i, rfl, ha, hi, q⟩ := h
    refine ⟨_, (pss_cons (ps_set (i := 2) sc_law_generator.nd rfl (Or.inl rfl) (C8.pe_c (c_law_cell T) hr (by decide) (by rfl) (pa_cons (pv 0) (pa_cons (pv 1) pa_nil))))
    (pss_one (ps_ret (pe_lst (pa_cons (pe_op op_modN (pe_callTy call_int1 (by rfl) T.m_int (by decide +kernel) (pa_cons (pe_callB (call_max2 rfl) (by rfl) T.m_max (by decide +kernel) (pa_cons (pe_op op_sub (pv 2) (pe_op op_powB pe_int pe_int)) (pa_cons pe_int pa_nil))) pa_nil)) (pe_op op_powB (pe_op op_powB pe_int pe_int) pe_int)) (pa_cons (pe_op op_modN (pe_callTy call_int1 (by rfl) T.m_int (by decide +kernel) (pa_cons (pv 2) pa_nil)) pe_int) (pa_cons (pe_op op_mulW pe_int (pv 1)) pa_nil))))))), ?_⟩
    refine ⟨_, rfl, _, rfl, a, ns, i, rfl, ha, fun r H1 s1 => ?_⟩
    refine ⟨_, rfl, _, _, rfl, rfl, ⟨by decide, by decide⟩, _, _, rfl, rfl, _, _, rfl, .inl ⟨_, rfl, _, _, rfl, rfl, ⟨by decide, by decide⟩, _, _, rfl, rfl, ⟨by decide, by decide⟩, _, _, rfl, rfl, (by decide : ((10 : Int) ^ Int.toNat 60) ^ Int.toNat 10 ≠ 0), ?_⟩⟩
    refine ⟨_, rfl, .inl ⟨_, rfl, _, _, rfl, rfl, (by decide : (2147483647 : Int) ≠ 0), ?_⟩⟩
    refine ⟨_, rfl, _, _, rfl, rfl, wide_mul (show ((1000 : Int)).natAbs < 2 ^ 100 by decide) (show ((i : Int)).natAbs < 2 ^ 100 by omega) (by decide) (by decide) (by decide), by show 3 ≤ sizeLine; decide, fun g hg => ?_⟩
    refine q g H1 _ s1 hg (sameNew hg) ⟨_, _, _, upd_same, fm0 (by decide), fm0 (by decide), Int.lt_trans (fm1 (by decide)) (by decide), by omega, by omega⟩
end
end K41

set_option Elab.async false
set_option linter.all false
set_option maxRecDepth 100000
set_option maxHeartbeats 4000000
namespace K41
open PySem PySem.Spec PyProof.Rows L2 CK SX NM
/-- a comprehension over a range that draws: what its items are is told by Pz -/
theorem lcP_draw {lo : Int} {g : Addr} {n cnt j : Nat} (Pz : V → Prop) {te : TE} {vs : List Nat} {σ : L2.St} {H1 : Hp} {D : Addr} {Qd : Hp → Prop} (hc : cnt < sizeLine) (hD : H1 D = none) (hg : Gn (n + cnt) H1 g)
    (hs : ∀ (i : Nat) (H : Hp) (R : VK), i < cnt → SameX g H1 H → Gn (n + (cnt - (i + 1)) + 1) H g → (∀ (r : V) H', SameX g H H' → Gn (n + (cnt - (i + 1))) H' g → Pz r → R r H') →
      wipe ((wipe σ vs).set j (some (.int (lo + i)))) vs = wipe σ vs ∧ te ((wipe σ vs).set j (some (.int (lo + i)))) H R)
    (hd : ∀ (H : Hp) (ns : List V), SameX g H1 H → Gn n H g → H D = some (.lst ns) → ns.length = cnt → (∀ x ∈ ns, Pz x) → Qd H) :
    ∃ W : Nat → Nat → Hp → Prop, (∃ m, W 0 m (L2.upd H1 D (.lst []))) ∧ ∀ i m H, W i m H →
      ((Itr lo cnt).stop i H ∧ Qd H) ∨ ((Itr lo cnt).go i H ∧ ∃ Nx : Hp → Prop, (∀ H', Nx H' → ∃ m', m' < m ∧ W (i + 1) m' H') ∧ ∀ x H', (Itr lo cnt).yld i H x H' → gName j x (wipe σ vs) H' fun σ2 H2 => wipe σ2 vs = wipe σ vs ∧ tYes σ2 H2 fun b H3 =>
        if b = true then te σ2 H3 fun y H4 => ∃ acc, H4 D = some (.lst acc) ∧ acc.length < sizeLine ∧ Nx (L2.upd H4 D (.lst (acc ++ [y]))) else Nx H3) := by
  have hDg := hg.ne hD
  refine lc_range (fun i H => SameX g H1 H ∧ Gn (n + (cnt - i)) H g ∧ i ≤ cnt ∧ ∃ ns : List V, H D = some (.lst ns) ∧ ns.length = i ∧ ∀ x ∈ ns, Pz x)
    ⟨sameX_new hD, hg.upd hDg, Nat.zero_le _, [], upd_same, rfl, fun x h => absurd h List.not_mem_nil⟩ (fun i H hi p => ?_) fun H p => ?_
  · obtain ⟨s, G, _, ns, hL, hl, hb⟩ := p
    have G1 : Gn (n + (cnt - (i + 1)) + 1) H g := by
      have e : n + (cnt - (i + 1)) + 1 = n + (cnt - i) := by omega
      rw [e]
      exact G
    refine hs i H _ hi s G1 fun r H' s' G' h0 => ⟨_, s' D _ hDg hL, by omega, (s.trans s').upd2 hD, G'.upd hDg, hi, ns ++ [r], upd_same, ?_, fun x hx => ?_⟩
    · rw [List.length_append, hl]
      rfl
    · rcases List.mem_append.mp hx with z | z
      · exact hb x z
      · rw [List.mem_singleton.mp z]
        exact h0
  · obtain ⟨s, G, _, ns, hL, hl, hb⟩ := p
    rw [Nat.sub_self] at G
    exact hd H ns s G hL hl hb
theorem join_one : ∀ cs : List Nat, TL.joinL [] (cs.map fun c => [c]) = cs
  | [] => rfl
  | [c] => rfl
  | c :: d :: r => by
    show [c] ++ ([] ++ TL.joinL [] ((d :: r).map fun c => [c])) = _
    rw [join_one (d :: r)]
    rfl
theorem join_S1 (cs : List Nat) : Txt.join (Str.ofString "") (cs.map fun c => S [c]) = S cs := by
  rw [empty_S]
  have := join_S [] (cs.map fun c => [c])
  rw [List.map_map] at this
  rw [show (cs.map fun c => S [c]) = cs.map (S ∘ fun c => [c]) from rfl, this, join_one]
theorem ones_S : ∀ {vs : List V}, (∀ v ∈ vs, ∃ c, v = V.str (S [c]) ∧ 97 ≤ c ∧ c ≤ 122) → ∃ cs : List Nat, vs = (cs.map fun c => S [c]).map V.str ∧ Low cs ∧ cs.length = vs.length
  | [], _ => ⟨[], rfl, fun c h => absurd h List.not_mem_nil, rfl⟩
  | v :: vs, h => by
    obtain ⟨c, rfl, hc⟩ := h v List.mem_cons_self
    obtain ⟨cs, rfl, lw, hl⟩ := ones_S fun u hu => h u (List.mem_cons_of_mem _ hu)
    refine ⟨c :: cs, rfl, fun d hd => ?_, by simp⟩
    rcases List.mem_cons.mp hd with z | z
    · rw [z]; exact hc
    · exact lw d z

theorem abc_S : (Str.ofString "abcdefghijklmnopqrstuvwxyz" : Str) = S (List.range' 97 26) := by decide +kernel
theorem low_abc : Low (List.range' 97 26) := fun c hc => by
  rw [List.mem_range'] at hc
  obtain ⟨i, h1, h2⟩ := hc
  omega
theorem get_one {cs : List Nat} {i : Nat} {v : V} (h : (cs.map fun c => V.str (S [c]))[i]? = some v) : ∃ c, cs[i]? = some c ∧ v = V.str (S [c]) := by
  rw [List.getElem?_map] at h
  cases e : cs[i]? with
  | none => rw [e] at h; cases h
  | some c =>
    rw [e] at h
    exact ⟨c, rfl, (Option.some.inj h).symm⟩
theorem sum_ones (l : List Nat) : ((l.map fun c => S [c]).map fun x => x.length).sum = l.length := by
  induction l with
  | nil => rfl
  | cons c r ih => rw [List.map_cons, List.map_cons, List.sum_cons, ih, S_len]; simp; omega
theorem nats_of : ∀ {ns : List Int}, (∀ z ∈ ns, 0 ≤ z) → ns.map V.int = (ns.map Int.toNat).map fun k : Nat => V.int (k : Nat)
  | [], _ => rfl
  | z :: r, h => by
    have h0 := h z List.mem_cons_self
    rw [List.map_cons, List.map_cons, List.map_cons, nats_of fun y hy => h y (List.mem_cons_of_mem _ hy)]
    congr 2
    omega
section
variable {P : Program} {w : World} {K : PySem.W.Frag} {mg : Str → Option Value} {base : Heap} {C : Addr}
def sp_letters : Sp := fun vs H Q _ => ∃ (g : Addr) (n : Nat), vs = [.ref g] ∧ Gn (n + 2) H g ∧ ∀ cs H', SameX g H H' → Gn n H' g → cs.length = 3 → Low cs → cs[0]? ≠ cs[1]? → Q (.str (S cs)) H'
theorem abc_get {k : Nat} (h : k < 26) : (List.range' 97 26)[k]? = some (97 + k) := by
  rw [List.getElem?_range' h]
  simp
theorem c_law_letters (T : Txt K mg C) : C8.Cal P w K mg base 3 "_law_letters" sp_letters [] := by
  refine calF T.d_law_letters sc_law_letters (fun vs H Q E h => ?_) (fun f cdv A outer s H vs Q E hr h => ?_)
  · obtain ⟨_, _, rfl, _⟩ := h; rfl
  · obtain ⟨g, n, rfl, G, q⟩ := h
    refine ⟨_, (pss_cons (ps_asg (pe_tup (pa_cons (C8.pe_c (c_law_random T) hr (by decide) (by rfl) (pa_cons (pv 0) (pa_cons pe_int pa_nil))) (pa_cons (pe_op op_add pe_int (C8.pe_c (c_law_random T) hr (by decide) (by rfl) (pa_cons (pv 0) (pa_cons pe_int pa_nil)))) pa_nil))) (pg_two (K := K) (i := 1) (j := 2) rfl rfl sc_law_letters.nd rfl rfl (Or.inr rfl) (Or.inr rfl)))
    (pss_one (ps_ret (pe_join pe_str (pe_lc (own := [("_law_turn", 3)]) (by rfl) sc_law_letters.nd (pi_range1 (by rfl) T.m_range (pa_cons pe_int pa_nil)) (blkOk_by (N := ["_law_generator_here", "_law_first", "_law_step", "_law_turn"]) (sc := C8.fnScope (topS 65)) (own := [("_law_turn", 3)]) (by decide +kernel)) (fun _ _ _ _ _ => (pg_name (i := 3) sc_law_letters.nd rfl (Or.inl rfl))) (fun _ _ _ _ _ => pts_nil) (fun _ _ _ _ _ => (pe_ix ix_str pe_str (pe_op op_modN (pe_callTy call_int1 (by rfl) T.m_int (by decide +kernel) (pa_cons (pe_op op_add (pv 1) (pe_op op_mulW (pv 2) (pv 3))) pa_nil)) pe_int) (fun _ _ => rfl)))))))), ?_⟩
    refine ⟨_, rfl, g, 26, n + 1, rfl, G, by decide, by decide, fun x H1 s1 G1 x0 x1 => ?_⟩
    refine ⟨_, rfl, g, 12, n, rfl, G1, by decide, by decide, fun y H2a s2a G2a y0 y1 => ⟨_, _, rfl, rfl, by show 2 ≤ sizeLine; decide, fun tp ntp => ?_⟩⟩
    obtain ⟨a, rfl⟩ : ∃ a : Nat, x = a := ⟨x.toNat, by omega⟩
    obtain ⟨b, rfl⟩ : ∃ b : Nat, y = b := ⟨y.toNat, by omega⟩
    have s2 := s2a.trans (.of (sameNew (o := .tup [V.int (a : Nat), V.int (1 + ((b : Nat) : Int))]) ntp))
    have G2 := G2a.same (sameNew (o := .tup [V.int (a : Nat), V.int (1 + ((b : Nat) : Int))]) ntp)
    refine ⟨tp, _, rfl, .inl (.inl upd_same), rfl, _, _, rfl, _, _, rfl, rfl, ?_⟩
    dsimp only
    generalize upd H2a tp (.tup [V.int (a : Nat), V.int (1 + ((b : Nat) : Int))]) = H2 at s2 G2
    refine ⟨⟨_, rfl⟩, 3, rfl, by decide, by decide, fun D hD => ?_⟩
    have lt : ∀ k, (97 + k % 26) - 97 < 26 := fun k => by omega
    let cs : List Nat := (List.range 3).map fun t => 97 + (a + (1 + b) * t) % 26
    refine lc_range (fun i H3 => Same H2 H3 ∧ H3 D = some (.lst (((List.range i).map fun t => 97 + (a + (1 + b) * t) % 26).map fun c => V.str (S [c])))) ⟨sameNew hD, upd_same⟩ (fun i H3 hi p => ?_) fun H3 p => ?_
    · obtain ⟨s3, h3⟩ := p
      have lx : (97 + (a + (1 + b) * i) % 26) < 97 + 26 := by omega
      have hz : (List.range' 97 26)[(a + (1 + b) * i) % 26]? = some (97 + (a + (1 + b) * i) % 26) := abc_get (by omega)
      have em : (((a : Nat) : Int) + (1 + ((b : Nat) : Int)) * (0 + ((i : Nat) : Int))).fmod 26 = (((a + (1 + b) * i) % 26 : Nat) : Int) := by
        rw [Int.fmod_eq_emod_of_nonneg _ (by omega), Int.zero_add, Int.natCast_emod, Int.natCast_add, Int.natCast_mul, Int.natCast_add]
        rfl
      have cm : CMulW (1 + ((b : Nat) : Int)) (0 + ((i : Nat) : Int)) := wide_mul (a := 100) (b := 100) (by omega) (by omega) (by decide) (by decide) (by decide)
      refine ⟨rfl, _, rfl, _, rfl, _, rfl, _, _, rfl, rfl, cm, _, _, rfl, rfl, .inl ⟨_, rfl, _, _, rfl, rfl, (by decide : (26 : Int) ≠ 0), ?_⟩⟩
      refine ⟨S (List.range' 97 26), _, _, congrArg V.str abc_S, congrArg V.int em, len_line (by decide), atI_nat (xs := List.range' 97 26) hz, ?_⟩
      refine ⟨_, h3, by rw [List.length_map, List.length_map, List.length_range, sizeLine_eq]; omega, same_upd2 hD s3, ?_⟩
      rw [upd_same, List.range_succ, List.map_append, List.map_append]
      rfl
    · obtain ⟨s3, h3⟩ := p
      refine ⟨Str.ofString "", D, cs.map fun c => S [c], rfl, rfl, .inl (.inl (.inl (by rw [h3]; simp only [cs, List.map_map]; rfl))), by rw [sum_ones, len_empty]; simp [cs], ?_⟩
      rw [join_S1]
      refine q cs H3 ((s1.trans s2).trans (.of s3)) (G2.same s3) rfl (fun c hc => ?_) ?_
      · obtain ⟨t, _, rfl⟩ := List.mem_map.mp hc
        omega
      · show some (97 + (a + (1 + b) * 0) % 26) ≠ some (97 + (a + (1 + b) * 1) % 26)
        intro e
        have := Option.some.inj e
        omega
def sp_word : Sp := fun vs H Q _ => ∃ (g : Addr) (cs : List Nat) (n lo hi : Nat), vs = [.ref g, .str (S cs), .int lo, .int hi] ∧ cs ≠ [] ∧ cs.length ≤ 26 ∧ Low cs ∧ Gn (n + 10) H g ∧ lo ≤ hi ∧ hi ≤ 6 ∧
  ∀ (w : List Nat) H', SameX g H H' → Gn n H' g → lo ≤ w.length → w.length ≤ hi → Low w → Q (.str (S w)) H'
theorem c_law_word (T : Txt K mg C) : C8.Cal P w K mg base 3 "_law_word" sp_word [] := by
  refine calF T.d_law_word sc_law_word (fun vs H Q E h => ?_) (fun f cdv A outer s H vs Q E hr h => ?_)
  · obtain ⟨_, _, _, _, _, rfl, _⟩ := h; rfl
  · obtain ⟨g, cs, n, lo, hi, rfl, ne, l26, lowc, G, h1, h2, q⟩ := h
    have n0 := List.length_pos_iff.mpr ne
    refine ⟨_, (pss_cons (ps_set (i := 4) sc_law_word.nd rfl (Or.inl rfl) (pe_op op_add (pv 2) (C8.pe_c (c_law_random T) hr (by decide) (by rfl) (pa_cons (pv 0) (pa_cons (pe_op op_add (pe_op op_sub (pv 3) (pv 2)) pe_int) pa_nil)))))
    (pss_one (ps_ret (pe_join pe_str (pe_lc (own := [("_law_turn", 5)]) (by rfl) sc_law_word.nd (pi_range1 (by rfl) T.m_range (pa_cons (pv 4) pa_nil)) (blkOk_by (N := ["_law_generator_here", "_law_letters_here", "_law_least", "_law_most", "_law_many", "_law_turn"]) (sc := C8.fnScope (topS 66)) (own := [("_law_turn", 5)]) (by decide +kernel)) (fun _ _ _ _ _ => (pg_name (i := 5) sc_law_word.nd rfl (Or.inl rfl))) (fun _ _ _ _ _ => pts_nil) (fun _ _ _ _ _ => (pe_ix ix_str (pv 1) (C8.pe_c (c_law_random T) hr (by decide) (by rfl) (pa_cons (pv 0) (pa_cons (pe_callB call_len_str (by rfl) T.m_len (by decide +kernel) (pa_cons (pv 1) pa_nil)) pa_nil))) (fun _ _ => rfl)))))))), ?_⟩
    refine ⟨_, rfl, _, rfl, _, rfl, _, rfl, _, _, rfl, rfl, _, _, rfl, rfl, g, _, n + 9, rfl, G, by omega, by omega, fun r H1 s1 G1 r0 r1 => ?_⟩
    refine ⟨_, _, rfl, rfl, ?_⟩
    refine ⟨⟨_, rfl⟩, _, rfl, (lo : Int) + r, rfl, by omega, by omega, fun D hD => ?_⟩
    refine lcP_draw (lo := 0) (g := g) (n := n) (cnt := ((lo : Int) + r).toNat) (fun v => ∃ c, v = V.str (S [c]) ∧ 97 ≤ c ∧ c ≤ 122) (small1000 (by omega)) hD (G1.le (by omega)) (fun i H2 R hi2 s2 G2 q' => ?_) fun H3 ns s3 G3 hL hl hP => ?_
    · refine ⟨rfl, _, rfl, _, rfl, _, rfl, S cs, rfl, len_line (by omega), g, _, _, rfl, G2, by rw [S_len]; omega, by rw [S_len]; omega, fun r3 H3 s3 G3 r30 r31 => ?_⟩
      rw [S_len] at r31
      obtain ⟨k, rfl⟩ : ∃ k : Nat, r3 = k := ⟨r3.toNat, by omega⟩
      have hk : k < cs.length := by omega
      have hz := List.getElem?_eq_getElem hk
      have hc := lowc _ (List.getElem_mem hk)
      generalize cs[k] = c at hz hc
      exact ⟨S cs, _, c, rfl, rfl, len_line (by omega), atI_nat (xs := cs) hz, q' _ H3 s3 G3 ⟨c, rfl, hc⟩⟩
    · obtain ⟨ws, rfl, lw, lw2⟩ := ones_S hP
      refine ⟨Str.ofString "", D, ws.map fun c => S [c], rfl, rfl, .inl (.inl (.inl hL)), by rw [sum_ones, List.length_map, len_empty]; omega, ?_⟩
      rw [join_S1]
      exact q ws H3 (s1.trans s3) G3 (by omega) (by omega) lw
/-- numbers up to most -/
def Up (most : Nat) (f : List Nat) : Prop := ∀ n ∈ f, n ≤ most
def sp_law_plain : Sp := fun vs H Q _ => ∃ (m k : Nat), vs = [.int m, .int k] ∧ m ≤ 3 ∧ ∀ p H', Same H H' → FT H' p (k :: List.replicate m 0) → Q (.ref p) H'
theorem c_law_plain (T : Txt K mg C) : C8.Cal P w K mg base 1 "_law_plain" sp_law_plain [] := by
  refine calF T.d_law_plain sc_law_plain (fun vs H Q E h => ?_) (fun f cdv A outer s H vs Q E hr h => ?_)
  · obtain ⟨_, _, rfl, _⟩ := h; rfl
  · obtain ⟨m, k, rfl, hm, q⟩ := h
    refine ⟨_, (pss_one (ps_ret (pe_op op_catS (pe_tup (pa_cons (pv 1) pa_nil)) (pe_op op_repOne (pe_tup (pa_cons pe_int pa_nil)) (pv 0))))), ?_⟩
    refine ⟨_, rfl, by show 1 ≤ sizeLine; decide, fun t1 n1 => ⟨by decide, fun t2 n2 => ⟨_, rfl, t2, _, _, rfl, rfl, upd_same, by omega, by omega, fun p H' s hp => ?_⟩⟩⟩
    have e1 : H' t1 = some (.tup [.int k]) := s _ _ (by rw [upd_ne (ne_of_none upd_same n2)]; exact upd_same)
    refine ⟨t1, p, _, _, rfl, rfl, e1, hp, by simp; omega, fun p2 H2 s2 h2 => q p2 H2 (((sameNew n1).trans (sameNew n2)).trans (s.trans s2)) ?_⟩
    unfold FT
    rw [h2]
    simp
end
end K41

set_option Elab.async false
set_option linter.all false
set_option maxRecDepth 100000
set_option maxHeartbeats 4000000
namespace K41
open PySem PySem.Spec PyProof.Rows L2 CK SX NM
theorem low_rotpart {b : List Nat} (h : Low b) (i j : Nat) : Low (((b ++ b).drop i).take j) := low_take (low_drop (low_app h h) _) _
theorem up_plain {m k B : Nat} (h : k ≤ B) : Up B (k :: List.replicate m 0) := fun x hx => by
  rcases List.mem_cons.mp hx with z | z
  · omega
  · rw [List.eq_of_mem_replicate z]
    exact Nat.zero_le _
section
variable {P : Program} {w : World} {K : PySem.W.Frag} {mg : Str → Option Value} {base : Heap} {C : Addr}
def sp_law_form : Sp := fun vs H Q _ => ∃ (g : Addr) (m c most n : Nat), vs = [.ref g, .int m, .int c, .int most] ∧ Gn (n + m) H g ∧ m ≤ 3 ∧ most < 2 ^ 100 ∧
  ∀ p f H', SameX g H H' → Gn n H' g → FT H' p (c :: f) → f.length = m → Up most f → Q (.ref p) H'
theorem c_law_form (T : Txt K mg C) : C8.Cal P w K mg base 3 "_law_form" sp_law_form [] := by
  refine calF T.d_law_form sc_law_form (fun vs H Q E h => ?_) (fun f cdv A outer s H vs Q E hr h => ?_)
  · obtain ⟨_, _, _, _, _, rfl, _⟩ := h; rfl
  · obtain ⟨g, m, c, most, n, rfl, G, hm, h1, q⟩ := h
    refine ⟨_, (pss_one (ps_ret (pe_op op_catS (pe_tup (pa_cons (pv 2) pa_nil)) (pe_callTy call_tupL (by rfl) T.m_tuple (by decide +kernel) (pa_cons (pe_lc (own := [("_law_turn", 4)]) (by rfl) sc_law_form.nd (pi_range1 (by rfl) T.m_range (pa_cons (pv 1) pa_nil)) (blkOk_by (N := ["_law_generator_here", "_law_many", "_law_constant", "_law_most", "_law_turn"]) (sc := C8.fnScope (topS 68)) (own := [("_law_turn", 4)]) (by decide +kernel)) (fun _ _ _ _ _ => (pg_name (i := 4) sc_law_form.nd rfl (Or.inl rfl))) (fun _ _ _ _ _ => pts_nil) (fun _ _ _ _ _ => (C8.pe_c (c_law_random T) hr (by decide) (by rfl) (pa_cons (pv 0) (pa_cons (pe_op op_add (pv 3) pe_int) pa_nil))))) pa_nil))))), ?_⟩
    refine ⟨_, rfl, by show 1 ≤ sizeLine; decide, fun t1 n1 => ?_⟩
    have s1 := sameNew (o := .tup [V.int (c : Nat)]) n1
    have G1 := G.same s1
    refine ⟨_, rfl, _, rfl, by omega, by omega, ?_⟩
    refine fun D hD => lcD_draw (cnt := m) (n := n) (g := g) (most := (most : Int)) (small5 (by omega)) hD G1 (fun i H3 R hi s3 G3 q' => ?_) fun H3 ns s3 G3 hL hl hb => ?_
    · exact ⟨rfl, _, rfl, _, rfl, _, _, rfl, rfl, g, most + 1, _, rfl, G3, by omega, by omega, fun r H4 s4 G4 r0 r1 => q' r H4 s4 G4 r0 (by omega)⟩
    · refine ⟨D, _, rfl, hL, fun l H4 s4 h4 => ?_⟩
      have e1 : H4 t1 = some (.tup [V.int (c : Nat)]) := s4 _ _ (s3.tup G1 upd_same)
      refine ⟨t1, l, _, _, rfl, rfl, e1, h4, by rw [List.length_map, hl]; show 1 + m ≤ 1000; omega, fun p H5 s5 h5 => ?_⟩
      refine q p (ns.map Int.toNat) H5 ((SameX.of s1).trans (s3.trans (.of (s4.trans s5)))) ((G3.same s4).same s5) ?_ (by rw [List.length_map, hl]) fun x hx => ?_
      · unfold FT
        rw [h5, nats_of fun z hz => (hb z hz).1]
        rfl
      · obtain ⟨z, hz, rfl⟩ := List.mem_map.mp hx
        have := hb z hz
        omega
def sp_law_piece : Sp := fun vs H Q _ => ∃ (g : Addr) (cs b : List Nat) (m n : Nat), vs = [.ref g, .int m, .str (S cs), .str (S b), .int 2] ∧ cs.length = 3 ∧ Low cs ∧ b ≠ [] ∧ b.length ≤ 2 ∧ Low b ∧ m ≤ 3 ∧ Gn (n + 50) H g ∧
  ∀ a p H', SameX g H H' → Gn n H' g → PC H' a p → p.2.length = m + 1 → p.1.length ≤ 4 → Low p.1 → Up 2 p.2 → Q (.ref a) H'
theorem c_law_piece (T : Txt K mg C) : C8.Cal P w K mg base 4 "_law_piece" sp_law_piece [] := by
  refine calF T.d_law_piece sc_law_piece (fun vs H Q E h => ?_) (fun f0 cdv A outer s H vs Q E hr h => ?_)
  · obtain ⟨_, _, _, _, _, rfl, _⟩ := h; rfl
  · obtain ⟨g, cs, b, m, n, rfl, lcs, lowc, bne, lb, lowb, hm, G, q⟩ := h
    have b0 := List.length_pos_iff.mpr bne
    refine ⟨_, (pss_cons (ps_par (i := 5) (j := 6) (by rfl) sc_law_piece.nd rfl rfl (by decide) rfl rfl (pa_cons (C8.pe_c (c_law_random T) hr (by decide) (by rfl) (pa_cons (pv 0) (pa_cons pe_int pa_nil))) (pa_cons (C8.pe_c (c_law_random T) hr (by decide) (by rfl) (pa_cons (pv 0) (pa_cons pe_int pa_nil))) pa_nil)) (by rfl))
    (pss_cons (ps_if (pt_cmpR op_eq (pv 5) pe_int (nomark _))
    (pss_one (ps_ret (pe_tup (pa_cons (C8.pe_c (c_law_word T) hr (by decide) (by rfl) (pa_cons (pv 0) (pa_cons (pv 2) (pa_cons pe_int (pa_cons pe_int pa_nil))))) (pa_cons (C8.pe_c (c_law_plain T) hr (by decide) (by rfl) (pa_cons (pv 1) (pa_cons pe_int pa_nil))) pa_nil)))))
    pss_nil)
    (pss_cons (ps_if (pt_cmpR op_eq (pv 5) pe_int (nomark _))
    (pss_one (ps_ret (pe_tup (pa_cons (pe_slice C8.sl_txt (pe_op op_repS (pv 3) pe_int) po_none (po_some (C8.pe_c (c_law_random T) hr (by decide) (by rfl) (pa_cons (pv 0) (pa_cons (pe_op op_add (pe_op op_mulW pe_int (pe_callB call_len_str (by rfl) T.m_len (by decide +kernel) (pa_cons (pv 3) pa_nil))) pe_int) pa_nil))))) (pa_cons (C8.pe_c (c_law_plain T) hr (by decide) (by rfl) (pa_cons (pv 1) (pa_cons pe_int pa_nil))) pa_nil)))))
    pss_nil)
    (pss_cons (ps_if (pt_cmpR op_eq (pv 5) pe_int (nomark _))
    (pss_one (ps_ret (pe_tup (pa_cons (pe_op op_add_str (pe_slice C8.sl_txt (pv 3) po_none (po_some pe_int)) (pe_ix ix_str (pv 2) (pv 6) (fun _ _ => rfl))) (pa_cons (C8.pe_c (c_law_form T) hr (by decide) (by rfl) (pa_cons (pv 0) (pa_cons (pv 1) (pa_cons pe_int (pa_cons (pv 4) pa_nil))))) pa_nil)))))
    pss_nil)
    (pss_cons (ps_if (pt_cmpR op_eq (pv 5) pe_int (nomark _))
    (pss_one (ps_ret (pe_tup (pa_cons (pe_ix ix_str (pv 2) (pv 6) (fun _ _ => rfl)) (pa_cons (C8.pe_c (c_law_form T) hr (by decide) (by rfl) (pa_cons (pv 0) (pa_cons (pv 1) (pa_cons pe_int (pa_cons (pv 4) pa_nil))))) pa_nil)))))
    pss_nil)
    (pss_cons (ps_if (pt_cmpR op_eq (pv 5) pe_int (nomark _))
    (pss_one (ps_ret (pe_tup (pa_cons (C8.pe_c (c_law_word T) hr (by decide) (by rfl) (pa_cons (pv 0) (pa_cons (pe_slice C8.sl_txt (pv 2) po_none (po_some pe_int)) (pa_cons pe_int (pa_cons pe_int pa_nil))))) (pa_cons (C8.pe_c (c_law_form T) hr (by decide) (by rfl) (pa_cons (pv 0) (pa_cons (pv 1) (pa_cons (pv 6) (pa_cons (pv 4) pa_nil))))) pa_nil)))))
    pss_nil)
    (pss_one (ps_ret (pe_tup (pa_cons (pe_slice C8.sl_txt (pe_op op_add_str (pv 3) (pv 3)) (po_some (pe_op op_modN (pe_callTy call_int1 (by rfl) T.m_int (by decide +kernel) (pa_cons (pv 6) pa_nil)) (pe_callB call_len_str (by rfl) T.m_len (by decide +kernel) (pa_cons (pv 3) pa_nil)))) (po_some (pe_op op_add (pe_op op_modN (pe_callTy call_int1 (by rfl) T.m_int (by decide +kernel) (pa_cons (pv 6) pa_nil)) (pe_callB call_len_str (by rfl) T.m_len (by decide +kernel) (pa_cons (pv 3) pa_nil))) (pe_callB call_len_str (by rfl) T.m_len (by decide +kernel) (pa_cons (pv 3) pa_nil))))) (pa_cons (C8.pe_c (c_law_form T) hr (by decide) (by rfl) (pa_cons (pv 0) (pa_cons (pv 1) (pa_cons pe_int (pa_cons (pv 4) pa_nil))))) pa_nil))))))))))), ?_⟩
    refine ⟨_, rfl, g, 7, n + 49, rfl, G, by decide, by decide, fun way H1 s1 G1 w0 w1 => ?_⟩
    refine ⟨_, rfl, g, 3, n + 48, rfl, G1, by decide, by decide, fun turn H2 s2 G2 t0 t1 => ⟨_, _, rfl, ?_⟩⟩
    obtain ⟨tn, rfl⟩ : ∃ tn : Nat, turn = tn := ⟨turn.toNat, by omega⟩
    have s12 := s1.trans s2
    have csne : cs ≠ [] := fun z => by rw [z] at lcs; cases lcs
    have fin : ∀ {H' : Hp} {t fa : Addr} {z : List Nat} {f : F}, H' t = none → SameX g H H' → Gn n H' g → FT H' fa f → f.length = m + 1 → z.length ≤ 4 → Low z → Up 2 f → Q (.ref t) (upd H' t (.tup [.str (S z), .ref fa])) := fun {H' t fa z f} ht sx G' hf lf lz lw uf =>
      q t (z, f) _ (sx.trans (.of (sameNew ht))) (G'.same (sameNew ht)) ⟨fa, upd_same, sameNew ht _ _ hf⟩ lf lz lw uf
    have up0 : ∀ {c : Nat} {f : F}, c ≤ 2 → Up 2 f → Up 2 (c :: f) := fun {c f} hc hf x hx => by
      rcases List.mem_cons.mp hx with z | z
      · omega
      · exact hf x z
    have hk2 : tn < cs.length := by omega
    have hz := List.getElem?_eq_getElem hk2
    have hc := lowc _ (List.getElem_mem hk2)
    generalize cs[tn] = ct at hz hc
    have one : Low [ct] := fun d hd => by rw [List.mem_singleton.mp hd]; exact hc
    refine ⟨_, rfl, rfl, _, rfl, ite2 (fun e => ?_) (fun e => ?_)⟩
    · refine ⟨_, rfl, _, rfl, g, cs, n + 38, 0, 3, rfl, csne, by omega, lowc, G2.le (by omega), by decide, by decide, fun w H3 s3 G3 _ w4 lw => ?_⟩
      exact ⟨_, rfl, m, 1, rfl, hm, fun p H5 s5 h5 => ⟨by show 2 ≤ sizeLine; decide, fun t ht => fin ht (s12.trans (s3.trans (.of s5))) ((G3.same s5).le (by omega)) h5 (by simp) (by omega) lw (up_plain (by omega))⟩⟩
    · refine ⟨_, rfl, rfl, _, rfl, ite2 (fun e => ?_) (fun e => ?_)⟩
      · have l3 : (List.replicate 3 b).flatten.length = b.length * 3 := WM.pw_len b 3
        refine ⟨_, rfl, b, 3, rfl, rfl, by decide, by omega, ?_⟩
        refine ⟨_, rfl, _, rfl, S b, rfl, len_line (by omega), _, _, rfl, rfl, wide_mul (a := 10) (b := 10) (by decide) (by rw [S_len]; omega) (by decide) (by decide) (by decide), _, _, rfl, rfl, g, _, n + 47, rfl, G2, by rw [S_len]; omega, by rw [S_len]; omega, fun r H3 s3 G3 r0 r1 => ?_⟩
        rw [S_len] at r1
        obtain ⟨rn, rfl⟩ : ∃ rn : Nat, r = rn := ⟨r.toNat, by omega⟩
        refine ⟨(rn : Int), rfl, S (List.replicate 3 b).flatten, rfl, len_line (by omega), ?_⟩
        rw [SX.slice_to (by omega), Int.toNat_natCast]
        exact ⟨_, rfl, m, 1, rfl, hm, fun p H5 s5 h5 => ⟨by show 2 ≤ sizeLine; decide, fun t ht => fin ht (s12.trans (s3.trans (.of s5))) ((G3.same s5).le (by omega)) h5 (by simp) (by rw [List.length_take]; omega) (low_take (low_pw lowb 3) _) (up_plain (by omega))⟩⟩
      · refine ⟨_, rfl, rfl, _, rfl, ite2 (fun e => ?_) (fun e => ?_)⟩
        · refine ⟨_, rfl, 1, rfl, S b, rfl, len_line (by omega), ?_⟩
          rw [SX.slice_to (by decide), show Int.toNat 1 = 1 from rfl]
          refine ⟨_, rfl, _, rfl, S cs, _, ct, rfl, rfl, len_line (by omega), atI_nat (xs := cs) hz, ?_⟩
          refine ⟨_, _, rfl, rfl, by rw [S_len, S_len, List.length_take, sizeLine_eq]; simp; omega, ?_⟩
          rw [S_cat]
          refine ⟨_, rfl, _, rfl, _, rfl, g, m, 0, 2, n, rfl, G2.le (by omega), hm, by decide, fun p f H' s' G' hf lf uf => ⟨by show 2 ≤ sizeLine; decide, fun t ht => fin ht (s12.trans s') G' hf (by simp [lf]) (by rw [List.length_append, List.length_take]; simp; omega) (low_app (low_take lowb _) one) (up0 (by omega) uf)⟩⟩
        · refine ⟨_, rfl, rfl, _, rfl, ite2 (fun e => ?_) (fun e => ?_)⟩
          · refine ⟨_, rfl, _, rfl, S cs, _, ct, rfl, rfl, len_line (by omega), atI_nat (xs := cs) hz, ?_⟩
            refine ⟨_, rfl, _, rfl, _, rfl, g, m, 0, 2, n, rfl, G2.le (by omega), hm, by decide, fun p f H' s' G' hf lf uf => ⟨by show 2 ≤ sizeLine; decide, fun t ht => fin (z := [ct]) ht (s12.trans s') G' hf (by simp [lf]) (by simp) one (up0 (by omega) uf)⟩⟩
          · refine ⟨_, rfl, rfl, _, rfl, ite2 (fun e => ?_) (fun e => ?_)⟩
            · have c2ne : cs.take 2 ≠ [] := fun z => by
                have := congrArg List.length z
                rw [List.length_take, List.length_nil] at this
                omega
              refine ⟨_, rfl, _, rfl, 2, rfl, S cs, rfl, len_line (by omega), ?_⟩
              rw [SX.slice_to (by decide)]
              refine ⟨g, cs.take 2, n + 38, 1, 3, rfl, c2ne, by rw [List.length_take]; omega, low_take lowc _, G2.le (by omega), by decide, by decide, fun w H3 s3 G3 _ w4 lw => ?_⟩
              exact ⟨_, rfl, _, rfl, _, rfl, _, rfl, g, m, tn, 2, n, rfl, G3.le (by omega), hm, by decide, fun p f H' s' G' hf lf uf => ⟨by show 2 ≤ sizeLine; decide, fun t ht => fin ht (s12.trans (s3.trans s')) G' hf (by simp [lf]) (by omega) lw (up0 (by omega) uf)⟩⟩
            · obtain ⟨k, hk, hkl⟩ := fmodZ (tn : Int) (show b.length ≠ 0 by omega)
              refine ⟨_, rfl, _, rfl, _, _, rfl, rfl, by rw [S_len, sizeLine_eq]; omega, ?_⟩
              rw [S_cat]
              refine ⟨_, rfl, .inl ⟨_, rfl, _, rfl, S b, rfl, len_line (by omega), (tn : Int), b.length, rfl, congrArg (fun n : Nat => V.int n) (S_len b), by omega, k, congrArg V.int hk, ?_⟩⟩
              refine ⟨_, rfl, .inl ⟨_, rfl, _, rfl, S b, rfl, len_line (by omega), (tn : Int), b.length, rfl, congrArg (fun n : Nat => V.int n) (S_len b), by omega, ?_⟩⟩
              refine ⟨_, rfl, S b, rfl, len_line (by omega), k, b.length, congrArg V.int hk, congrArg (fun n : Nat => V.int n) (S_len b), ((k + b.length : Nat) : Int), congrArg V.int (by omega), S (b ++ b), rfl, len_line (by rw [List.length_append]; omega), ?_⟩
              rw [slice_mid (by omega) (by rw [List.length_append]; omega), show k + b.length - k = b.length by omega]
              have ltw : (((b ++ b).drop k).take b.length).length = b.length := by rw [List.length_take, List.length_drop, List.length_append]; omega
              refine ⟨_, rfl, _, rfl, _, rfl, g, m, 0, 2, n, rfl, G2.le (by omega), hm, by decide, fun p f H' s' G' hf lf uf => ⟨by show 2 ≤ sizeLine; decide, fun t ht => fin ht (s12.trans s') G' hf (by simp [lf]) (by omega) (low_rotpart lowb k _) (up0 (by omega) uf)⟩⟩
end
end K41

set_option Elab.async false
set_option linter.all false
set_option maxRecDepth 100000
set_option maxHeartbeats 4000000
namespace K41
open PySem PySem.Spec PyProof.Rows L2 CK SX NM
theorem flat_wr (pt : List Nat) : ∀ ps : List Pn, (ps.map (wrt pt)).flatten = wr pt ps
  | [] => rfl
  | p :: r => by rw [List.map_cons, List.flatten_cons, flat_wr pt r]; rfl
theorem Pcs.getE {H : Hp} {vs : List V} {ps : List Pn} (h : Pcs H vs ps) {i : Nat} {v : V} (hi : vs[i]? = some v) : ∃ a p, v = .ref a ∧ ps[i]? = some p ∧ PC H a p := h.get hi
section
variable {P : Program} {w : World} {K : PySem.W.Frag} {mg : Str → Option Value} {base : Heap} {C : Addr}
def sp_law_write : Sp := fun vs H Q _ => ∃ (l lp : Addr) (m : Nat) (ps : List Pn) (pt : List Nat), vs = [.ref l, .ref lp] ∧ PL H l ps ∧ LP H lp pt ∧ LenF m ps ∧ pt.length = m ∧ m ≤ 3 ∧ (∀ p ∈ ps, Bf p.2 ∧ p.1.length ≤ 1000 ∧ valF p.2 pt ≤ 1000) ∧ Bf pt ∧ ps.length ≤ 1000 ∧ (wr pt ps).length ≤ 1000000 ∧ ∀ H', Same H H' → Q (.str (S (wr pt ps))) H'
theorem c_law_write (T : Txt K mg C) : C8.Cal P w K mg base 2 "_law_write" sp_law_write [] := by
  refine calF T.d_law_write sc_law_write (fun vs H Q E h => ?_) (fun f0 cdv A outer s H vs Q E hr h => ?_)
  · obtain ⟨_, _, _, _, _, rfl, _⟩ := h; rfl
  · obtain ⟨l, lp, m, ps, pt, rfl, ⟨us, hus, pus⟩, hlp, lF, lpt, m3, bd, bp, few, lw, q⟩ := h
    have lu := pus.len
    have lp' : LP H lp pt := hlp
    refine ⟨_, (pss_one (ps_ret (pe_join pe_str (pe_lc (own := [("_law_word_here", 2), ("_law_form_here", 3)]) (by rfl) sc_law_write.nd (pi_list (pv 0)) (blkOk_by (N := ["_law_pieces", "_law_point", "_law_word_here", "_law_form_here"]) (sc := C8.fnScope (topS 71)) (own := [("_law_word_here", 2), ("_law_form_here", 3)]) (by decide +kernel)) (fun _ _ _ _ _ => (pg_two (K := K) (i := 2) (j := 3) rfl rfl sc_law_write.nd rfl rfl (Or.inl rfl) (Or.inl rfl))) (fun _ _ _ _ _ => pts_nil) (fun _ _ _ _ _ => (pe_op op_repS (pv 2) (C8.pe_c (c_law_value T) hr (by decide) (by rfl) (pa_cons (pv 3) (pa_cons (pv 1) pa_nil))))))))), ?_⟩
    refine ⟨⟨_, rfl⟩, _, rfl, l, rfl, ⟨_, .inl (.inl hus)⟩, fun D hD => ?_⟩
    refine lc_list (K := K) (a := l) (xs := us) (fun i H2 => Same H H2 ∧ H2 D = some (.lst (((ps.take i).map (wrt pt)).map fun z => V.str (S z)))) ⟨sameNew hD, upd_same⟩ (fun i H2 _ p => .inl (.inl (p.1 _ _ hus))) (fun i y H2 hi p => ?_) fun H2 p => ?_
    · obtain ⟨s2, hws⟩ := p
      obtain ⟨b, p, rfl, hpi, pc⟩ := pus.get hi
      obtain ⟨fa, e1, e2⟩ := pc.mono (tup_same s2)
      have mem := List.mem_of_getElem? hpi
      obtain ⟨b1, b2, b3⟩ := bd p mem
      refine ⟨b, _, rfl, .inl (.inl e1), rfl, _, _, rfl, _, _, rfl, rfl, rfl, yes_if ?_⟩
      refine ⟨_, rfl, _, rfl, _, rfl, fa, lp, p.2, pt, m, rfl, e2, s2 _ _ hlp, lF p mem, lpt, m3, b1, bp, fun H3 s3 => ?_⟩
      refine ⟨p.1, valF p.2 pt, rfl, rfl, by omega, by omega, _, s3 _ _ hws, ?_, same_upd2 hD (s2.trans s3), ?_⟩
      · rw [List.length_map, List.length_map, List.length_take, sizeLine_eq]
        omega
      · rw [upd_same, List.take_succ, hpi, List.map_append, List.map_append]
        rfl
    · obtain ⟨s2, hws⟩ := p
      rw [lu, List.take_length] at hws
      refine ⟨Str.ofString "", D, (ps.map (wrt pt)).map S, rfl, rfl, .inl (.inl (.inl (by rw [hws]; simp only [List.map_map]; rfl))), ?_, ?_⟩
      · rw [len_flatS, flat_wr, len_empty]
        omega
      · rw [K41.join_flat, flat_wr]
        exact q H2 s2
theorem sx_free {g D : Addr} {H H' : Hp} (s : SameX g H H') (ne : D ≠ g) (h : H' D = none) : H D = none := by
  cases e : H D with
  | none => rfl
  | some o => rw [s D o ne e] at h; cases h
theorem Pcs.take {H : Hp} {vs : List V} {ps : List Pn} (h : Pcs H vs ps) (k : Nat) : Pcs H (vs.take k) (ps.take k) := by
  induction h generalizing k with
  | nil => simp; exact .nil
  | cons e _ ih =>
    cases k with
    | zero => exact .nil
    | succ k => exact .cons e (ih k)
theorem Pcs.drop {H : Hp} {vs : List V} {ps : List Pn} (h : Pcs H vs ps) (k : Nat) : Pcs H (vs.drop k) (ps.drop k) := by
  induction h generalizing k with
  | nil => simp; exact .nil
  | cons e h ih =>
    cases k with
    | zero => exact .cons e h
    | succ k => exact ih k
/-- a list of pieces that grows while the generator runs -/
structure Grow (g : Addr) (H : Hp) (L : Addr) (H' : Hp) (ps : List Pn) : Prop where
  sx : SameX g H H'
  pl : PL H' L ps
  ne : L ≠ g
  new : H L = none
theorem Grow.go {g L : Addr} {H H' H2 : Hp} {ps : List Pn} {n : Nat} (h : Grow g H L H' ps) (G : Gn n H' g) (s : SameX g H' H2) : Grow g H L H2 ps := by
  obtain ⟨s1, ⟨vs, hl, hp⟩, lg, h0⟩ := h
  exact ⟨s1.trans s, ⟨vs, s _ _ lg hl, hp.mono fun a xs e => s.tup G e⟩, lg, h0⟩
/-- as they are drawn -/
def Dr (m : Nat) (ps : List Pn) : Prop := ∀ p ∈ ps, p.2.length = m + 1 ∧ p.1.length ≤ 4 ∧ Low p.1 ∧ Up 2 p.2
/-- the first k unknowns stand in a text -/
def Std (m k : Nat) (ps : List Pn) : Prop := ∀ i, i < k → ∃ p ∈ ps, p.1 ≠ [] ∧ p.2 = 0 :: eP i m
theorem len_eP1 (i m : Nat) : (eP i m).length = m := by unfold eP; simp
theorem up_eP {i m : Nat} : Up 2 (0 :: eP i m) := fun x hx => by
  rcases List.mem_cons.mp hx with z | z
  · omega
  · unfold eP at z
    obtain ⟨j, _, rfl⟩ := List.mem_map.mp z
    split <;> omega
def sp_standing : Sp := fun vs H Q _ => ∃ (g : Addr) (cs b : List Nat) (m n : Nat), vs = [.ref g, .int m, .str (S cs), .str (S b)] ∧ cs.length = 3 ∧ Low cs ∧ b ≠ [] ∧ b.length ≤ 2 ∧ Low b ∧ m ≤ 3 ∧ Gn (n + 500) H g ∧
  ∀ L ps H', Grow g H L H' ps → Gn n H' g → ps.length ≤ 5 → Dr m ps → Std m m ps → Q (.ref L) H'
theorem c_law_standing (T : Txt K mg C) : C8.Cal P w K mg base 5 "_law_standing" sp_standing [] := by
  refine calF T.d_law_standing sc_law_standing (fun vs H Q E h => ?_) (fun f0 cdv A outer s H vs Q E hr h => ?_)
  · obtain ⟨_, _, _, _, _, rfl, _⟩ := h; rfl
  · obtain ⟨g, cs, b, m, n, rfl, lcs, lowc, bne, lb, lowb, hm, G, q⟩ := h
    refine ⟨_, (pss_cons (ps_setLc (i := 4) (own := [("_law_turn", 5)]) rfl sc_law_standing.nd rfl rfl (sw_true rfl rfl rfl (by decide +kernel)) (pi_range1 (by rfl) T.m_range (pa_cons (C8.pe_c (c_law_random T) hr (by decide) (by rfl) (pa_cons (pv 0) (pa_cons pe_int pa_nil))) pa_nil)) (blkOk_by (N := ["_law_generator_here", "_law_many", "_law_letters_here", "_law_core", "_law_pieces", "_law_turn", "_law_at", "_law_form_here", "_law_place", "_law_spot"]) (sc := C8.fnScope (topS 72)) (own := [("_law_turn", 5)]) (by decide +kernel)) (fun _ _ _ _ _ => (pg_name (i := 5) sc_law_standing.nd rfl (Or.inl rfl))) (fun _ _ _ _ _ => pts_nil) (fun _ _ _ _ _ => (C8.pe_c (c_law_piece T) hr (by decide) (by rfl) (pa_cons (pv 0) (pa_cons (pv 1) (pa_cons (pv 2) (pa_cons (pv 3) (pa_cons pe_int pa_nil))))))))
    (pss_cons (ps_for PassesOwn.never rfl (pi_range1 (by rfl) T.m_range (pa_cons (pv 1) pa_nil)) (pg_name (i := 6) sc_law_standing.nd rfl (Or.inr rfl))
    (pss_cons (ps_set (i := 7) sc_law_standing.nd rfl (Or.inl rfl) (pe_op op_catS (pe_tup (pa_cons pe_int pa_nil)) (pe_callTy call_tupL (by rfl) T.m_tuple (by decide +kernel) (pa_cons (pe_lc (own := [("_law_place", 8)]) (by rfl) sc_law_standing.nd (pi_range1 (by rfl) T.m_range (pa_cons (pv 1) pa_nil)) (blkOk_by (N := ["_law_generator_here", "_law_many", "_law_letters_here", "_law_core", "_law_pieces", "_law_turn", "_law_at", "_law_form_here", "_law_place", "_law_spot"]) (sc := C8.fnScope (topS 72)) (own := [("_law_place", 8)]) (by decide +kernel)) (fun _ _ _ _ _ => (pg_name (i := 8) sc_law_standing.nd rfl (Or.inl rfl))) (fun _ _ _ _ _ => pts_nil) (fun _ _ _ _ _ => (pe_callTy call_int1 (by rfl) T.m_int (by decide +kernel) (pa_cons (pe_cmpR op_eq (pv 8) (pv 6) (nomark _)) pa_nil)))) pa_nil))))
    (pss_cons (ps_set (i := 9) sc_law_standing.nd rfl (Or.inl rfl) (C8.pe_c (c_law_random T) hr (by decide) (by rfl) (pa_cons (pv 0) (pa_cons (pe_op op_add (pe_callB call_len_seq (by rfl) T.m_len (by decide +kernel) (pa_cons (pv 4) pa_nil)) pe_int) pa_nil))))
    (pss_one (ps_set (i := 4) sc_law_standing.nd rfl (Or.inl rfl) (pe_op op_cat (pe_op op_cat (pe_slice sl_list (pv 4) po_none (po_some (pv 9))) (pe_lst (pa_cons (pe_tup (pa_cons (pe_ix ix_list (pe_lst (pa_cons (pv 3) (pa_cons (pe_ix ix_str (pv 2) pe_int (fun _ _ => rfl)) (pa_cons (pe_ix ix_str (pv 2) pe_int (fun _ _ => rfl)) pa_nil)))) (C8.pe_c (c_law_random T) hr (by decide) (by rfl) (pa_cons (pv 0) (pa_cons pe_int pa_nil))) (fun _ _ => rfl)) (pa_cons (pv 7) pa_nil))) pa_nil))) (pe_slice sl_list (pv 4) (po_some (pv 9)) po_none)))))))
    (pss_one (ps_ret (pv 4))))), ?_⟩
    refine ⟨_, rfl, g, 2, n + 499, rfl, G, by decide, by decide, fun r H1 s1 G1 r0 r1 => ?_⟩
    obtain ⟨cnt, rfl⟩ : ∃ cnt : Nat, r = cnt := ⟨r.toNat, by omega⟩
    refine ⟨(cnt : Int), rfl, by omega, by omega, fun D hD => ?_⟩
    have Dg := G1.ne hD
    refine lc_range (fun i H2 => i ≤ cnt ∧ Gn (n + 300 + 50 * (3 - i)) H2 g ∧ ∃ ps, Grow g H D H2 ps ∧ ps.length = i ∧ Dr m ps) ⟨Nat.zero_le _, (G1.upd Dg).le (by omega), [], ⟨s1.trans (sameX_new hD), ⟨[], upd_same, .nil⟩, Dg, sx_free s1 Dg hD⟩, rfl, fun p hp => by cases hp⟩ (fun i H2 hi p => ?_) fun H2 p => ?_
    · obtain ⟨_, G2, ps, gr, lps, dr⟩ := p
      have hic : i < cnt := by omega
      have i3 : i < 3 := by omega
      have eG : n + 300 + 50 * (3 - i) = n + 300 + 50 * (3 - (i + 1)) + 50 := by omega
      rw [eG] at G2
      refine ⟨rfl, yes_if ⟨_, rfl, _, rfl, _, rfl, _, rfl, g, cs, b, m, n + 300 + 50 * (3 - (i + 1)), rfl, lcs, lowc, bne, lb, lowb, hm, G2, fun a p H4 s4 G4 pc lp wp low up => ?_⟩⟩
      have gr4 := gr.go G2 s4
      obtain ⟨us, hus, pus⟩ := id gr4.pl
      have lu := pus.len
      refine ⟨us, hus, by rw [sizeLine_eq]; omega, hic, G4.upd gr4.ne, ps ++ [p], ⟨fun c o hc hO => ?_, ⟨_, upd_same, (pus.upd hus).app (.one (pc.mono (tup_upd hus)))⟩, gr4.ne, gr4.new⟩, by rw [List.length_append, lps]; rfl, fun x hx => ?_⟩
      · have hcL : c ≠ D := fun z => by rw [z, gr4.new] at hO; cases hO
        rw [upd_ne hcL]
        exact gr4.sx c o hc hO
      · rcases List.mem_append.mp hx with z | z
        · exact dr x z
        · rw [List.mem_singleton.mp z]
          exact ⟨lp, wp, low, up⟩
    obtain ⟨_, G2, ps0, gr0, lps0, dr0⟩ := p
    refine ⟨_, rfl, (m : Int), rfl, by omega, by omega, ?_⟩
    refine for_it walk_range (fun i σ H' => i ≤ m ∧ ∃ (L : Addr) (ps : List Pn) (y6 y7 y9 : Option V), σ = [some (.ref g), some (.int m), some (.str (S cs)), some (.str (S b)), some (.ref L), none, y6, y7, none, y9] ∧ Grow g H L H' ps ∧ Gn (n + 90 * (3 - i)) H' g ∧ ps.length ≤ 2 + i ∧ Dr m ps ∧ Std m i ps)
      ⟨Nat.zero_le _, D, ps0, none, none, none, rfl, gr0, G2.le (by omega), by omega, dr0, fun i hi => absurd hi (Nat.not_lt_zero i)⟩ (fun _ _ _ _ _ => True.intro) (fun i x σ H' H'' hi pI yy => ?_) fun σ H' pI => ?_
    · obtain ⟨_, L, ps, y6, y7, y9, rfl, gr, G3, lps, dr, sd⟩ := pI
      obtain ⟨rfl, rfl⟩ := yy
      have im : i < m := by
        have : i < ((m : Int)).toNat := hi
        omega
      have eG : n + 90 * (3 - i) = n + 90 * (3 - (i + 1)) + 90 := by omega
      rw [eG] at G3
      refine ⟨by show 1 ≤ sizeLine; decide, fun t1 n1 => ?_⟩
      have st1 := sameNew (o := .tup [V.int 0]) n1
      refine ⟨_, rfl, _, rfl, by omega, by omega, fun D1 hD1 => ?_⟩
      refine lc_range (fun j H4 => Same (upd H'' t1 (.tup [V.int 0])) H4 ∧ H4 D1 = some (.lst (natsV ((List.range j).map fun k => if k = i then 1 else 0)))) ⟨sameNew hD1, upd_same⟩ (fun j H4 hj p => ?_) fun H4 p => ?_
      · obtain ⟨s4, h4⟩ := p
        have jm : j < m := by
          have : j < ((m : Int)).toNat := hj
          omega
        refine ⟨rfl, yes_if ⟨_, rfl, _, rfl, rfl, .inr ⟨_, rfl, _, h4, by rw [natsV_len, List.length_map, List.length_range, sizeLine_eq]; omega, same_upd2 hD1 s4, ?_⟩⟩⟩
        rw [upd_same, List.range_succ, List.map_append]
        unfold natsV
        rw [List.map_append]
        congr 3
        by_cases e : j = i
        · rw [decide_eq_true (by rw [e])]
          simp [e]
        · rw [decide_eq_false (fun h => e (by have := V.int.inj h; omega))]
          simp [e]
      obtain ⟨s4, h4⟩ := p
      have em : ((m : Int)).toNat = m := Int.toNat_natCast m
      rw [em] at h4
      refine ⟨D1, _, rfl, h4, fun l H5 s5 h5 => ?_⟩
      have e1 : H5 t1 = some (.tup [V.int 0]) := s5 _ _ (s4 _ _ upd_same)
      refine ⟨t1, l, _, _, rfl, rfl, e1, h5, by rw [natsV_len, List.length_map, List.length_range]; show 1 + m ≤ 1000; omega, fun fa H6 s6 h6 => ?_⟩
      have hf : FT H6 fa (0 :: eP i m) := h6
      have sA : Same H'' H6 := ((st1.trans s4).trans s5).trans s6
      have gr6 := gr.go G3 (.of sA)
      have G6 := G3.same sA
      obtain ⟨us, hus, pus⟩ := id gr6.pl
      have lu := pus.len
      refine ⟨_, rfl, _, rfl, L, us, rfl, .inl (.inl (.inl hus)), _, _, rfl, rfl, g, _, n + 90 * (3 - (i + 1)) + 80, rfl, G6.le (by omega), by omega, by omega, fun r H7 s7 G7 r0 r1 => ?_⟩
      obtain ⟨k, rfl⟩ : ∃ k : Nat, r = k := ⟨r.toNat, by omega⟩
      have gr7 := gr6.go G6 s7
      have hf7 : FT H7 fa (0 :: eP i m) := s7.tup G6 hf
      have hus7 := s7 _ _ gr6.ne hus
      refine ⟨_, rfl, _, rfl, (k : Int), rfl, L, us, rfl, .inl (.inl hus7), fun La nLa => ?_⟩
      have sa := sameNew (o := .lst (cutV us none (some (k : Int)))) nLa
      have hLa := upd_same (H := H7) (a := La) (o := .lst (cutV us none (some (k : Int))))
      have G7a := G7.same sa
      have hf7a := sa _ _ hf7
      have hus7a := sa _ _ hus7
      have gr7a := gr7.go G7 (.of sa)
      have Lag := G7.ne nLa
      have La0 : H La = none := sx_free gr7.sx Lag nLa
      generalize upd H7 La (.lst (cutV us none (some (k : Int)))) = Ha at sa hLa G7a hf7a hus7a gr7a
      have h0 : 0 < cs.length := by omega
      have hz := List.getElem?_eq_getElem h0
      have hc := lowc _ (List.getElem_mem h0)
      generalize cs[0] = c0 at hz hc
      have h1 : 1 < cs.length := by omega
      have hz1 := List.getElem?_eq_getElem h1
      have hc1 := lowc _ (List.getElem_mem h1)
      generalize cs[1] = c1 at hz1 hc1
      refine ⟨_, rfl, _, rfl, S cs, _, c0, rfl, rfl, len_line (by omega), atI_nat (xs := cs) (j := 0) hz, _, rfl, S cs, _, c1, rfl, rfl, len_line (by omega), atI_nat (xs := cs) (j := 1) hz1, by show 3 ≤ sizeLine; decide, fun lq nq => ?_⟩
      have sq := sameNew (o := .lst [V.str (S b), V.str (S [c0]), V.str (S [c1])]) nq
      have hlq := upd_same (H := Ha) (a := lq) (o := .lst [V.str (S b), V.str (S [c0]), V.str (S [c1])])
      have Gq := G7a.same sq
      have lqg := G7a.ne nq
      refine ⟨_, rfl, g, 3, n + 90 * (3 - (i + 1)) + 79, rfl, Gq, by decide, by decide, fun r2 H8 s8 G8 r20 r21 => ?_⟩
      obtain ⟨k2, rfl⟩ : ∃ k2 : Nat, r2 = k2 := ⟨r2.toNat, by omega⟩
      obtain ⟨z, hz2, zne, zl, zlow⟩ : ∃ z : List Nat, ([V.str (S b), V.str (S [c0]), V.str (S [c1])] : List V)[k2]? = some (.str (S z)) ∧ z ≠ [] ∧ z.length ≤ 2 ∧ Low z := by
        match k2, r21 with
        | 0, _ => exact ⟨b, rfl, bne, lb, lowb⟩
        | 1, _ => exact ⟨[c0], rfl, by simp, by simp, fun d hd => by rw [List.mem_singleton.mp hd]; exact hc⟩
        | 2, _ => exact ⟨[c1], rfl, by simp, by simp, fun d hd => by rw [List.mem_singleton.mp hd]; exact hc1⟩
        | k + 3, h => omega
      have hlq8 := s8 _ _ lqg hlq
      have sx8 : SameX g Ha H8 := (SameX.of sq).trans s8
      have hf8 : FT H8 fa (0 :: eP i m) := sx8.tup G7a hf7a
      have gr8 := gr7a.go G7a sx8
      have hLa8 := sx8 _ _ Lag hLa
      have hus8 := sx8 _ _ gr7a.ne hus7a
      refine ⟨lq, _, (k2 : Int), _, rfl, rfl, .inl (.inl hlq8), atI_nat hz2, _, rfl, by show 2 ≤ sizeLine; decide, fun tt ntt => ?_⟩
      have stt := sameNew (o := .tup [V.str (S z), V.ref fa]) ntt
      have htt := upd_same (H := H8) (a := tt) (o := .tup [V.str (S z), V.ref fa])
      refine ⟨by show 1 ≤ sizeLine; decide, fun l1 nl1 => ?_⟩
      have sl1 := sameNew (o := .lst [V.ref tt]) nl1
      have hl1 := upd_same (H := upd H8 tt (.tup [V.str (S z), V.ref fa])) (a := l1) (o := .lst [V.ref tt])
      have sB := stt.trans sl1
      rw [cutV_take] at hLa8
      have tl : (us.take k).length ≤ 5 := by rw [List.length_take]; omega
      refine ⟨La, l1, _, _, rfl, rfl, sB _ _ hLa8, hl1, by rw [sizeLine_eq]; simp only [List.length_cons, List.length_nil]; omega, fun L2 nL2 => ?_⟩
      have s2 := sameNew (o := .lst (us.take k ++ [V.ref tt])) nL2
      have hL2 := upd_same (H := upd (upd H8 tt (.tup [V.str (S z), V.ref fa])) l1 (.lst [V.ref tt])) (a := L2) (o := .lst (us.take k ++ [V.ref tt]))
      refine ⟨_, rfl, _, rfl, (k : Int), rfl, L, us, rfl, .inl (.inl ((sB.trans s2) _ _ hus8)), fun Lb nLb => ?_⟩
      rw [cutV_drop]
      have sb := sameNew (o := .lst (us.drop k)) nLb
      have hLb := upd_same (H := upd (upd (upd H8 tt (.tup [V.str (S z), V.ref fa])) l1 (.lst [V.ref tt])) L2 (.lst (us.take k ++ [V.ref tt]))) (a := Lb) (o := .lst (us.drop k))
      have dl : (us.drop k).length ≤ 5 := by rw [List.length_drop]; omega
      refine ⟨L2, Lb, _, _, rfl, rfl, sb _ _ hL2, hLb, by rw [List.length_append, sizeLine_eq]; simp only [List.length_cons, List.length_nil]; omega, fun L3 nL3 => ?_⟩
      have s3 := sameNew (o := .lst (us.take k ++ [V.ref tt] ++ us.drop k)) nL3
      have sC := ((sB.trans s2).trans sb).trans s3
      have sAll : SameX g H7 _ := (SameX.of sa).trans (sx8.trans (.of sC))
      have G9 := G8.same sC
      have p9 : Pcs _ us ps := pus.mono fun a xs e => sAll.tup G7 (s7.tup G6 e)
      have L3g : L3 ≠ g := (G8.same ((sB.trans s2).trans sb)).ne nL3
      have pcN : PC _ tt (z, 0 :: eP i m) := ⟨fa, (((sl1.trans s2).trans sb).trans s3) _ _ htt, sC _ _ hf8⟩
      refine ⟨im, L3, ps.take k ++ [(z, 0 :: eP i m)] ++ ps.drop k, _, _, _, rfl, ⟨gr7.sx.trans sAll, ⟨_, upd_same, ((p9.take k).app (.one pcN)).app (p9.drop k)⟩, L3g, sx_free (gr7.sx.trans ((SameX.of sa).trans (sx8.trans (.of ((sB.trans s2).trans sb))))) L3g nL3⟩, G9.le (by omega), ?_, fun p hp => ?_, fun j hj => ?_⟩
      · have := List.length_take (i := k) (l := ps)
        have := List.length_drop (i := k) (l := ps)
        simp only [List.length_append, List.length_cons, List.length_nil]
        omega
      · rcases List.mem_append.mp hp with y | y
        · rcases List.mem_append.mp y with y | y
          · exact dr p (List.mem_of_mem_take y)
          · rw [List.mem_singleton.mp y]
            exact ⟨by simp [len_eP1], by show z.length ≤ 4; omega, zlow, up_eP⟩
        · exact dr p (List.mem_of_mem_drop y)
      · by_cases e : j = i
        · subst e
          exact ⟨(z, 0 :: eP j m), by simp, zne, rfl⟩
        · obtain ⟨p, hp, pn, pf⟩ := sd j (by omega)
          refine ⟨p, ?_, pn, pf⟩
          rw [← List.take_append_drop k ps] at hp
          rcases List.mem_append.mp hp with y | y
          · exact List.mem_append.mpr (.inl (List.mem_append.mpr (.inl y)))
          · exact List.mem_append.mpr (.inr y)
    · obtain ⟨_, L, ps, y6, y7, y9, rfl, gr, G3, lps, dr, sd⟩ := pI
      have em : ((m : Int)).toNat = m := Int.toNat_natCast m
      rw [em] at lps sd
      exact ⟨_, rfl, q L ps H' gr (G3.le (by omega)) (by omega) dr sd⟩
end
end K41

set_option Elab.async false
set_option linter.all false
set_option maxRecDepth 100000
set_option maxHeartbeats 8000000
namespace K41
open PySem PySem.Spec PyProof.Rows L2 CK SX NM
/-! ### words as the keys of a dict -/
def Ks (kvs : List (Key × V)) (ks : List (List Nat)) : Prop := kvs.map (·.1) = ks.map (fun z => (Sum.inr (S z) : Key)) ∧ ks.Nodup
theorem Ks.nil : Ks [] [] := ⟨rfl, List.nodup_nil⟩
theorem Ks.len {kvs : List (Key × V)} {ks : List (List Nat)} (h : Ks kvs ks) : kvs.length = ks.length := by
  have := congrArg List.length h.1
  rwa [List.length_map, List.length_map] at this
theorem Ks.any {kvs : List (Key × V)} {ks : List (List Nat)} (h : Ks kvs ks) (z : List Nat) : (kvs.any fun kv => decide (kv.1 = (Sum.inr (S z) : Key))) = decide (z ∈ ks) := by
  have e : (kvs.any fun kv => decide (kv.1 = (Sum.inr (S z) : Key))) = ((kvs.map (·.1)).any fun k => decide (k = (Sum.inr (S z) : Key))) := by rw [List.any_map]; rfl
  rw [e, h.1, List.any_map, Bool.eq_iff_iff, List.any_eq_true, decide_eq_true_iff]
  constructor
  · rintro ⟨y, hy, e⟩
    have e := of_decide_eq_true (p := (Sum.inr (S y) : Key) = Sum.inr (S z)) e
    rw [← S_inj (Sum.inr.inj e)]
    exact hy
  · exact fun hz => ⟨z, hz, decide_eq_true (p := (Sum.inr (S z) : Key) = Sum.inr (S z)) rfl⟩
theorem Ks.get {kvs : List (Key × V)} {ks : List (List Nat)} (h : Ks kvs ks) (z : List Nat) : (valV kvs (Sum.inr (S z))).isSome = decide (z ∈ ks) := by rw [← valV_any, h.any]
theorem Ks.put {kvs : List (Key × V)} {ks : List (List Nat)} (h : Ks kvs ks) (z : List Nat) (v : V) : ∃ ls, Ks (putK kvs (Sum.inr (S z)) v) ls ∧ (∀ y, y ∈ ls ↔ y ∈ ks ∨ y = z) ∧ ls.length ≤ ks.length + 1 := by
  unfold putK
  rw [h.any]
  by_cases e : z ∈ ks
  · rw [if_pos (decide_eq_true e)]
    refine ⟨ks, ⟨?_, h.2⟩, fun y => ⟨.inl, fun x => x.elim id fun x => x ▸ e⟩, by omega⟩
    rw [List.map_map, ← h.1]
    refine List.map_congr_left fun kv _ => ?_
    show (if kv.1 = _ then (kv.1, v) else kv).1 = kv.1
    split <;> rfl
  · rw [if_neg (fun x => e (of_decide_eq_true x))]
    refine ⟨ks ++ [z], ⟨by rw [List.map_append, List.map_append, h.1]; rfl, ?_⟩, fun y => by rw [List.mem_append, List.mem_singleton], by simp⟩
    rw [List.nodup_append]
    exact ⟨h.2, by simp, fun a ha b hb x => e (by rw [List.mem_singleton.mp hb] at x; rw [← x]; exact ha)⟩
def Kd (H : Hp) (D : Addr) (ks : List (List Nat)) : Prop := ∃ kvs, H D = some (.dK kvs) ∧ Ks kvs ks
theorem Kd.same {H H' : Hp} {D : Addr} {ks : List (List Nat)} (h : Kd H D ks) (s : Same H H') : Kd H' D ks := by
  obtain ⟨kvs, e, k⟩ := h
  exact ⟨kvs, s _ _ e, k⟩
/-- the words of at most so many letters that a text writes -/
def WS (m : Nat) (ps : List Pn) (most : Nat) (z : List Nat) : Prop := ∃ pt ∈ box m most, NM.wr pt ps = z ∧ z.length ≤ most
structure Tx (C : Addr) (H : Hp) (x : Addr) (m : Nat) (ps : List Pn) : Prop where
  ot : OT C H x m ps
  m3 : m ≤ 3
  nm : Nm m ps
  uk : ∀ i, i < m → ukn ps i = true
  one : (NM.wr (List.replicate m 1) ps).length < 2 ^ 100
theorem Tx.same {C x : Addr} {H H' : Hp} {m : Nat} {ps : List Pn} (h : Tx C H x m ps) (s : Same H H') : Tx C H' x m ps := ⟨h.ot.same s, h.m3, h.nm, h.uk, h.one⟩
theorem Tx.form {C x : Addr} {H : Hp} {m : Nat} {ps : List Pn} (h : Tx C H x m ps) : ∃ c fs, lenP m ps = c :: fs ∧ fs.length = m ∧ (∀ n ∈ fs, 1 ≤ n ∧ n < 2 ^ 100) ∧ ∀ pt, c + dot fs pt = (NM.wr pt ps).length := by
  have lF : LenF m ps := fun p hp => (h.nm.all p hp).len
  have l1 := len_lenP lF
  obtain ⟨c, fs, ef⟩ : ∃ c fs, lenP m ps = c :: fs := by
    cases h : lenP m ps with
    | nil => rw [h] at l1; simp at l1
    | cons c fs => exact ⟨c, fs, rfl⟩
  have lfs : fs.length = m := by rw [ef] at l1; simpa using l1
  refine ⟨c, fs, ef, lfs, fun n hn => ?_, fun pt => ?_⟩
  · obtain ⟨i, hi, rfl⟩ := List.getElem_of_mem hn
    have a := lenP_one h.nm (show i < m by omega) (h.uk i (by omega))
    have b := mem_val l1 (show fs[i] ∈ lenP m ps by rw [ef]; exact List.mem_cons_of_mem _ hn)
    have o := h.one
    rw [val_lenP lF] at b
    rw [ef, List.getD_cons_succ, List.getD_eq_getElem?_getD, List.getElem?_eq_getElem hi] at a
    exact ⟨a, by omega⟩
  · have := val_lenP lF pt
    rw [ef] at this
    exact this
section
variable {P : Program} {w : World} {K : PySem.W.Frag} {mg : Str → Option Value} {base : Heap} {C : Addr}
def sp_words_up_to (C : Addr) : Sp := fun vs H Q _ => ∃ (a : Addr) (m : Nat) (ps : List Pn) (most : Nat), vs = [.ref a, .int most] ∧ Tx C H a m ps ∧ most ≤ 60 ∧ ∀ D H' ks, Same H H' → H D = none → Kd H' D ks → ks.length ≤ 300000 → (∀ z, z ∈ ks ↔ WS m ps most z) → Q (.ref D) H'
theorem c_words_up_to (T : Txt K mg C) : C8.Cal P w K mg base 5 "words_up_to" (sp_words_up_to C) [] := by
  refine calF T.d_words_up_to sc_words_up_to (fun vs H Q E h => ?_) (fun f cdv A outer s H vs Q E hr h => ?_)
  · obtain ⟨_, _, _, _, rfl, _⟩ := h; rfl
  · obtain ⟨a, m, ps, most, rfl, tx, hm, q⟩ := h
    obtain ⟨c, fs, ef, lfs, bfs, val⟩ := tx.form
    have m3 := tx.m3
    refine ⟨_, (pss_one (ps_ret (pe_dc (own := [("point", 2), ("_", 3)]) (by rfl) sc_words_up_to.nd (pi_list (C8.pe_c (c_points_up_to T) hr (by decide) (by rfl) (pa_cons (C8.pe_c (c_length T) hr (by decide) (by rfl) (pa_cons (pv 0) pa_nil)) (pa_cons (pv 1) pa_nil)))) (blkOk_by (N := ["text", "most", "point", "_"]) (sc := C8.fnScope (topS 59)) (own := [("point", 2), ("_", 3)]) (by decide +kernel)) (fun _ _ _ _ _ => (pg_two (K := K) (i := 2) (j := 3) rfl rfl sc_words_up_to.nd rfl rfl (Or.inl rfl) (Or.inl rfl))) (fun _ _ _ _ _ => pts_nil) (fun _ _ _ _ _ => (C8.pe_c (c_word_at T) hr (by decide) (by rfl) (pa_cons (pv 0) (pa_cons (pv 2) pa_nil)))) (fun _ _ _ _ _ => pe_bl)))), ?_⟩
    refine ⟨_, rfl, a, m, ps, rfl, tx.ot, m3, fun fa H1 s1 hf => ?_⟩
    rw [ef] at hf
    refine ⟨_, rfl, fa, c, most, fs, rfl, hf, by omega, bfs, hm, fun D H2 s2 rl => ?_⟩
    obtain ⟨vs, hvs, pvs⟩ := rl
    have lv := pvs.len
    have s12 := s1.trans s2
    have rb := rb_fold fs (rows0 c most) 0 (fun k hk => (bfs k hk).1) (rb_zero (c := c) (most := most))
    rw [Nat.zero_add] at rb
    have rb : Rb most fs.length (upTo c fs most) := rb
    have rlen : (upTo c fs most).length ≤ 300000 := by
      have a1 : (most + 1) ^ fs.length ≤ (most + 1) ^ 3 := Nat.pow_le_pow_right (by omega) (by omega)
      have a2 : (most + 1) ^ 3 ≤ 61 ^ 3 := Nat.pow_le_pow_left (by omega) 3
      have a3 : 61 ^ 3 ≤ 300000 := by decide
      have := rb.1
      omega
    have eU := upTo_eq (c := c) (most := most) fun n hn => (bfs n hn).1
    rw [lfs] at eU
    have rmem : ∀ r ∈ upTo c fs most, r.1 ∈ box m most ∧ (NM.wr r.1 ps).length ≤ most := fun r hr => by
      rw [eU] at hr
      obtain ⟨pt, hp, e⟩ := List.mem_filterMap.mp hr
      unfold keepR at e
      by_cases z : c + dot fs pt ≤ most
      · rw [if_pos z] at e
        cases e
        exact ⟨hp, by rw [← val]; exact z⟩
      · rw [if_neg z] at e
        cases e
    have all : ∀ z, (∃ r ∈ upTo c fs most, NM.wr r.1 ps = z) ↔ WS m ps most z := fun z => by
      constructor
      · rintro ⟨r, hr, rfl⟩
        exact ⟨r.1, (rmem r hr).1, rfl, (rmem r hr).2⟩
      · rintro ⟨pt, hp, rfl, hl⟩
        refine ⟨(pt, most - (c + dot fs pt)), ?_, rfl⟩
        rw [eU]
        refine List.mem_filterMap.mpr ⟨pt, hp, ?_⟩
        unfold keepR
        rw [if_pos (by rw [val]; exact hl)]
    generalize upTo c fs most = rows at pvs rb rlen rmem all lv
    refine ⟨D, rfl, ⟨_, .inl (.inl hvs)⟩, fun Dk hDk => ?_⟩
    refine dc_list (K := K) (a := D) (xs := vs) (fun i HB => Same H2 HB ∧ ∃ ks, Kd HB Dk ks ∧ ks.length ≤ i ∧ ∀ z, z ∈ ks ↔ ∃ r ∈ rows.take i, NM.wr r.1 ps = z) ⟨sameNew hDk, [], ⟨[], upd_same, .nil⟩, Nat.le_refl _, fun z => by simp⟩ (fun i HB _ p => .inl (.inl (p.1 _ _ hvs))) (fun i v HB hv p => ?_) fun HB p => ?_
    · obtain ⟨sB, ks, ⟨kvs, hkd, hks⟩, lk, mem⟩ := p
      obtain ⟨t, l, r, rfl, hr', ht0, hl0⟩ := pvs.get hv
      have hl := sB _ _ hl0
      have rm := List.mem_of_getElem? hr'
      obtain ⟨hb, hw⟩ := rmem r rm
      have il : i < vs.length := (List.getElem?_eq_some_iff.mp hv).1
      refine ⟨t, _, rfl, .inl (.inl (sB _ _ ht0)), rfl, _, _, rfl, _, _, rfl, rfl, rfl, yes_if ?_⟩
      refine ⟨_, rfl, _, rfl, a, l, m, ps, r.1, rfl, tx.ot.same (s12.trans sB), hl, box_len hb, m3, fun x hx => Nat.lt_of_le_of_lt (box_mem hb x hx) (Nat.lt_of_le_of_lt hm (by decide)), fun p hp => (tx.nm.all p hp).ne, by omega, fun H4 s4 => ?_⟩
      obtain ⟨ls, k1, k2, k3⟩ := hks.put (NM.wr r.1 ps) (.bl true)
      refine ⟨kvs, Sum.inr (S (NM.wr r.1 ps)), rfl, s4 _ _ hkd, by have := hks.len; rw [sizeLine_eq]; omega, same_upd2 hDk (sB.trans s4), ls, ⟨_, upd_same, k1⟩, by omega, fun z => ?_⟩
      rw [k2, mem, List.take_succ, hr']
      constructor
      · rintro (⟨r', h1, h2⟩ | h)
        · exact ⟨r', List.mem_append.mpr (.inl h1), h2⟩
        · exact ⟨r, List.mem_append.mpr (.inr List.mem_cons_self), h.symm⟩
      · rintro ⟨r', h1, h2⟩
        rcases List.mem_append.mp h1 with h | h
        · exact .inl ⟨r', h, h2⟩
        · rw [show r' = r from List.mem_singleton.mp h] at h2
          exact .inr h2.symm
    · obtain ⟨sB, ks, kd, lk, mem⟩ := p
      rw [lv] at lk
      rw [lv, List.take_length] at mem
      exact q Dk HB ks (s12.trans sB) (s12.free hDk) kd (by omega) fun z => (mem z).trans (all z)
end
end K41

set_option Elab.async false
set_option linter.all false
set_option maxRecDepth 100000
set_option maxHeartbeats 8000000
namespace K41
open PySem PySem.Spec PyProof.Rows L2 CK SX NM
theorem leS_S (a b : List Nat) : leS (S a) (S b) = leW a b := rfl
theorem leN_S (a b : List Nat) : leN (S a) (S b) = leL a b := by
  unfold leN leL
  rw [S_len, S_len]
theorem sort_S1 (ks : List (List Nat)) : (ks.map S).mergeSort leS = (ks.mergeSort leW).map S := (PySem.W.sort_maps S fun a _ b _ => (leS_S a b).symm).symm
theorem sort_S2 (ks : List (List Nat)) : (ks.map S).mergeSort leN = (ks.mergeSort leL).map S := (PySem.W.sort_maps S fun a _ b _ => (leN_S a b).symm).symm
/-- a list of texts -/
abbrev Tt := Addr × Nat × List Pn
def Ts (C : Addr) (H : Hp) (ts : List Tt) : Prop := ∀ t ∈ ts, Tx C H t.1 t.2.1 t.2.2
theorem Ts.same {C : Addr} {H H' : Hp} {ts : List Tt} (h : Ts C H ts) (s : Same H H') : Ts C H' ts := fun t ht => (h t ht).same s
/-- as it is told: sorted, each once -/
def Told (zs : List (List Nat)) (Pz : List Nat → Prop) : Prop := zs.Nodup ∧ zs.Pairwise Rk ∧ ∀ z, z ∈ zs ↔ Pz z
theorem Told.one {zs ys : List (List Nat)} {Pz : List Nat → Prop} (h : Told zs Pz) (h' : Told ys Pz) : zs = ys := rk_one h.2.1 h'.2.1 (perm_of_mem h.1 h'.1 fun z => (h.2.2 z).trans (h'.2.2 z).symm)
section
variable {P : Program} {w : World} {K : PySem.W.Frag} {mg : Str → Option Value} {base : Heap} {C : Addr}
def sp_shared (C : Addr) : Sp := fun vs H Q _ => ∃ (a : Addr) (ts : List Tt) (most : Nat), vs = [.ref a, .int most] ∧ H a = some (.lst (ts.map fun t => .ref t.1)) ∧ ts ≠ [] ∧ ts.length ≤ 4 ∧ Ts C H ts ∧ most ≤ 40 ∧
  ∀ D H' zs, Same H H' → H D = none → H' D = some (.lst (zs.map fun z => .str (S z))) → zs.length ≤ 300000 → Told zs (fun z => ∀ t ∈ ts, WS t.2.1 t.2.2 most z) → Q (.ref D) H'
theorem c_shared_words (T : Txt K mg C) : C8.Cal P w K mg base 6 "shared_words" (sp_shared C) [] := by
  refine calF T.d_shared_words sc_shared_words (fun vs H Q E h => ?_) (fun f cdv A outer s H vs Q E hr h => ?_)
  · obtain ⟨_, _, _, rfl, _⟩ := h; rfl
  · obtain ⟨a, ts, most, rfl, ha, tne, t4, tx, hm, q⟩ := h
    have t1 := List.length_pos_iff.mpr tne
    have lx : (ts.map fun t => V.ref t.1).length = ts.length := List.length_map _
    refine ⟨_, (pss_cons (ps_if (PW.pt (pw_or (pt_not (pt_val (pe_callB call_isK (by rfl) T.m_isinstance (by decide +kernel) (pa_cons (pv 0) (pa_cons (pe_bltn (v := .ty "list") (by rfl) T.m_list (by decide +kernel) rfl) pa_nil))))) (pw_or1 (pt_not (pt_chain op_le op_le pe_int (pe_callB call_len_seq (by rfl) T.m_len (by decide +kernel) (pa_cons (pv 0) pa_nil)) (C8.pe_gc (by rfl) T.k_MOST_TEXTS))))))
    (pss_one ps_never)
    pss_nil)
    (pss_cons (ps_for PassesOwn.never rfl (pi_list (pv 0)) (pg_name (i := 2) sc_shared_words.nd rfl (Or.inl rfl))
    (pss_one (ps_expr (C8.pe_c (c_need_bound_text T) hr (by decide) (by rfl) (pa_cons (pv 2) pa_nil)))))
    (pss_cons (ps_expr (C8.pe_c (c_need_within T) hr (by decide) (by rfl) (pa_cons (pv 1) (pa_cons pe_int (pa_cons (C8.pe_gc (by rfl) T.k_MOST_LETTERS_SHARED) pa_nil)))))
    (pss_cons (ps_set (i := 3) sc_shared_words.nd rfl (Or.inl rfl) (C8.pe_c (c_words_up_to T) hr (by decide) (by rfl) (pa_cons (pe_ix ix_list (pv 0) pe_int (fun _ _ => rfl)) (pa_cons (pv 1) pa_nil))))
    (pss_cons (ps_for PassesOwn.never rfl (pi_list (pe_slice sl_list (pv 0) (po_some pe_int) po_none)) (pg_name (i := 4) sc_shared_words.nd rfl (Or.inl rfl))
    (pss_cons (ps_set (i := 5) sc_shared_words.nd rfl (Or.inr rfl) (C8.pe_c (c_words_up_to T) hr (by decide) (by rfl) (pa_cons (pv 4) (pa_cons (pv 1) pa_nil))))
    (pss_one (ps_lock (ps_setDc (i := 3) (own := [("word", 6)]) rfl sc_shared_words.nd rfl rfl (sw_trueD rfl rfl rfl (by decide +kernel)) (pi_keys (pv 3)) (blkOk_by (N := ["texts", "most", "item", "found", "text", "own", "word"]) (sc := C8.fnScope (topS 58)) (own := [("word", 6)]) (by decide +kernel)) (fun _ _ _ _ _ => (pg_name (i := 6) sc_shared_words.nd rfl (Or.inl rfl))) (fun _ _ _ _ _ => (pts_one (pt_cmp (pc_din (room1 hr) (pv 6) (pv 5))))) (fun _ _ _ _ _ => (pv 6)) (fun _ _ _ _ _ => pe_bl))))))
    (pss_one (ps_ret (pe_sortedLen hr.units (by rfl) T.m_sorted (by decide +kernel) (by rfl) T.m_len (by decide +kernel) (pa_cons (pe_callB (call_sortedDA rfl hr.units) (by rfl) T.m_sorted (by decide +kernel) (pa_cons (pv 3) pa_nil)) pa_nil))))))))), ?_⟩
    refine if_not (fun R q' => ?_) (fun H1 s1 => ?_)
    · have kn : Kn H (.ref a) := .lst ha
      refine ⟨_, rfl, .ref a, "list", _, rfl, kn, kit_list kn, _, rfl, ?_⟩
      rw [isLi_lst ha]
      refine iteF ?_
      refine ⟨_, rfl, a, _, rfl, .inl (.inl (.inl ha)), 1, _, rfl, rfl, _, rfl, ?_⟩
      rw [lx, decide_eq_true (show (1 : Int) ≤ ((ts.length : Nat) : Int) by omega)]
      refine iteT ⟨_, _, rfl, rfl, _, rfl, ?_⟩
      rw [decide_eq_true (show ((ts.length : Nat) : Int) ≤ 4 by omega)]
      exact q' _ (Same.refl _)
    · have ha1 := s1 _ _ ha
      have tx1 := tx.same s1
      refine ⟨_, rfl, a, rfl, ⟨_, .inl (.inl ha1)⟩, for_list (K := K) (a := a) (xs := ts.map fun t => V.ref t.1) (fun i σ HH => Same H1 HH ∧ ∃ y2 : Option V, σ = [some (.ref a), some (.int most), y2, none, none, none, none])
        ⟨.refl _, none, rfl⟩ (fun i σ HH _ p => .inl (.inl (p.1 _ _ ha1))) (fun i v σ HH hi pI => ?_) fun σ HH pI => ?_⟩
      · obtain ⟨s2, y2, rfl⟩ := pI
        rw [List.getElem?_map] at hi
        obtain ⟨t, ht, rfl⟩ : ∃ t, ts[i]? = some t ∧ v = .ref t.1 := by
          cases e : ts[i]? with
          | none => rw [e] at hi; cases hi
          | some t => rw [e] at hi; exact ⟨t, rfl, (Option.some.inj hi).symm⟩
        have x := (tx1.same s2) t (List.mem_of_getElem? ht)
        exact ⟨_, rfl, t.1, t.2.1, t.2.2, rfl, x.ot, x.m3, x.uk, fun H3 s3 => ⟨s2.trans s3, _, rfl⟩⟩
      · obtain ⟨s2, y2, rfl⟩ := pI
        have s02 := s1.trans s2
        have ha2 := s2 _ _ ha1
        have tx2 := tx1.same s2
        refine ⟨_, rfl, (most : Int), 0, 40, rfl, by omega, by omega, ?_⟩
        obtain ⟨t, r, rfl⟩ : ∃ t r, ts = t :: r := by
          cases ts with
          | nil => exact absurd rfl tne
          | cons t r => exact ⟨t, r, rfl⟩
        have x := tx2 t List.mem_cons_self
        refine ⟨_, rfl, a, _, 0, _, rfl, rfl, .inl (.inl ha2), atI_nat (j := 0) rfl, _, rfl, t.1, t.2.1, t.2.2, most, rfl, x, by omega, fun D0 H3 ks0 s3 nD0 kd0 l0 mem0 => ?_⟩
        have s03 := s02.trans s3
        refine ⟨_, rfl, 1, rfl, a, _, rfl, .inl (.inl (s3 _ _ ha2)), fun L nL => ?_⟩
        rw [show cutV ((t :: r).map fun t => V.ref t.1) (some 1) none = r.map fun t => V.ref t.1 from cutV_drop _ 1]
        have sL := sameNew (o := .lst (r.map fun t => V.ref t.1)) nL
        have hL := upd_same (H := H3) (a := L) (o := .lst (r.map fun t => V.ref t.1))
        generalize upd H3 L (.lst (r.map fun t => V.ref t.1)) = H4 at sL hL
        have s04 := s03.trans sL
        have tx4 := (tx2.same s3).same sL
        refine ⟨L, rfl, ⟨_, .inl (.inl hL)⟩, for_list (K := K) (a := L) (xs := r.map fun t => V.ref t.1) (fun i σ HH => Same H4 HH ∧ ∃ (D : Addr) (ks : List (List Nat)) (y4 y5 : Option V), σ = [some (.ref a), some (.int most), y2, some (.ref D), y4, y5, none] ∧ Kd HH D ks ∧ ks.length ≤ 300000 ∧ ∀ z, z ∈ ks ↔ ∀ u ∈ t :: r.take i, WS u.2.1 u.2.2 most z)
          ⟨.refl _, D0, ks0, none, none, rfl, kd0.same sL, l0, fun z => by rw [mem0]; simp⟩ (fun i σ HH _ p => .inl (.inl (p.1 _ _ hL))) (fun i v σ HH hi pI => ?_) fun σ HH pI => ?_⟩
        · obtain ⟨s5, D, ks, y4, y5, rfl, kd, lk, mem⟩ := pI
          rw [List.getElem?_map] at hi
          obtain ⟨u, hu, rfl⟩ : ∃ u, r[i]? = some u ∧ v = .ref u.1 := by
            cases e : r[i]? with
            | none => rw [e] at hi; cases hi
            | some t => rw [e] at hi; exact ⟨t, rfl, (Option.some.inj hi).symm⟩
          have xu := (tx4.same s5) u (List.mem_cons_of_mem _ (List.mem_of_getElem? hu))
          refine ⟨_, rfl, _, rfl, u.1, u.2.1, u.2.2, most, rfl, xu, by omega, fun D2 H5 ks2 s6 nD2 kd2 l2 mem2 => ?_⟩
          obtain ⟨kvs, hD, hks⟩ := kd.same s6
          obtain ⟨kvs0, hD00, _⟩ := kd
          have DD2 : D2 ≠ D := fun e => by rw [e, hD00] at nD2; cases nD2
          have lkv := hks.len
          obtain ⟨kvs2, hD2, hks2⟩ := kd2
          refine ⟨D, .dK kvs, hD, trivial, fun od => ?_⟩
          have hfz := upd_same (H := H5) (a := D) (o := .frz od (.dK kvs))
          refine ⟨_, rfl, D, od, rfl, .inl ⟨kvs, hfz, fun Dn hDn => ?_⟩⟩
          have DnD : Dn ≠ D := fun e => by rw [e, hfz] at hDn; cases hDn
          refine dc_keys (ks := kvs) (fun j HB => Same (upd H5 D (.frz od (.dK kvs))) HB ∧ ∃ ls, Kd HB Dn ls ∧ ls.length ≤ j ∧ ∀ z, z ∈ ls ↔ z ∈ ks.take j ∧ z ∈ ks2) ⟨sameNew hDn, [], ⟨[], upd_same, .nil⟩, Nat.le_refl _, fun z => by simp⟩ (fun j HB _ p => p.1 _ _ hfz) (fun j k v HB hj p => ?_) fun HB p => ?_
          · obtain ⟨sB, ls, ⟨lvs, hls, kls⟩, ll, lmem⟩ := p
            have jl : j < kvs.length := (List.getElem?_eq_some_iff.mp hj).1
            obtain ⟨z, hz, rfl⟩ : ∃ z, ks[j]? = some z ∧ k = Sum.inr (S z) := by
              have e := congrArg (fun l => l[j]?) hks.1
              simp only [List.getElem?_map, hj] at e
              cases e2 : ks[j]? with
              | none => rw [e2] at e; cases e
              | some z => rw [e2] at e; exact ⟨z, rfl, Option.some.inj e⟩
            have hB2 : HB D2 = some (.dK kvs2) := sB _ _ (by rw [upd_ne DD2]; exact hD2)
            have eT : ks.take (j + 1) = ks.take j ++ [z] := by
              rw [List.take_succ, hz]
              rfl
            refine ⟨rfl, _, rfl, _, rfl, D2, _, rfl, DGet.k hB2, ?_⟩
            rw [hks2.get]
            refine ⟨_, rfl, ?_⟩
            rw [eT]
            by_cases e : z ∈ ks2
            · rw [decide_eq_true e]
              refine iteT ⟨_, rfl, ?_⟩
              obtain ⟨ls', k1, k2, k3⟩ := kls.put z (.bl true)
              refine ⟨lvs, Sum.inr (S z), rfl, hls, by have := kls.len; rw [sizeLine_eq]; omega, same_upd2 hDn sB, ls', ⟨_, upd_same, k1⟩, by omega, fun y => ?_⟩
              rw [k2, lmem, List.mem_append, List.mem_singleton]
              constructor
              · rintro (⟨h1, h2⟩ | h)
                · exact ⟨.inl h1, h2⟩
                · exact ⟨.inr h, h ▸ e⟩
              · rintro ⟨h1 | h1, h2⟩
                · exact .inl ⟨h1, h2⟩
                · exact .inr h1
            · rw [decide_eq_false e]
              refine iteF ⟨sB, ls, ⟨lvs, hls, kls⟩, by omega, fun y => ?_⟩
              rw [lmem, List.mem_append, List.mem_singleton]
              constructor
              · exact fun h => ⟨.inl h.1, h.2⟩
              · rintro ⟨h1 | h1, h2⟩
                · exact ⟨h1, h2⟩
                · exact absurd (h1 ▸ h2) e
          · obtain ⟨sB, ls, ⟨lvs, hls, kls⟩, ll, lmem⟩ := p
            obtain ⟨hfB, sU⟩ := same_lock hD sB
            rw [lkv] at ll lmem
            rw [List.take_length] at lmem
            refine ⟨hfB, (s5.trans s6).trans sU, Dn, ls, _, _, rfl, ⟨lvs, by rw [upd_ne DnD]; exact hls, kls⟩, by omega, fun z => ?_⟩
            rw [lmem, mem, mem2, List.take_succ, hu]
            constructor
            · rintro ⟨h1, h2⟩ y hy
              rcases List.mem_cons.mp hy with e | hy
              · exact h1 y (e ▸ List.mem_cons_self)
              rcases List.mem_append.mp hy with e | e
              · exact h1 y (List.mem_cons_of_mem _ e)
              · rw [show y = u from List.mem_singleton.mp e]
                exact h2
            · intro h
              exact ⟨fun y hy => h y (by
                rcases List.mem_cons.mp hy with e | hy
                · rw [e]; exact List.mem_cons_self
                · exact List.mem_cons_of_mem _ (List.mem_append.mpr (.inl hy))), h u (List.mem_cons_of_mem _ (List.mem_append.mpr (.inr List.mem_cons_self)))⟩
        · obtain ⟨s5, D, ks, y4, y5, rfl, ⟨kvs, hD, hks⟩, lk, mem⟩ := pI
          have lr : (r.map fun t => V.ref t.1).length = r.length := List.length_map _
          rw [lr, List.take_length] at mem
          have s05 := s04.trans s5
          refine ⟨_, rfl, D, kvs, ks.map S, rfl, .inl hD, by rw [hks.1, List.map_map]; rfl, by rw [List.length_map, sizeLine_eq]; omega, fun p1 np1 => ?_⟩
          rw [sort_S1]
          have sp1 := sameNew (o := .lst (((ks.mergeSort leW).map S).map V.str)) np1
          refine ⟨p1, (ks.mergeSort leW).map S, rfl, .inl (.inl upd_same), fun z hz => ?_, fun p2 np2 => ?_⟩
          · obtain ⟨y, hy, rfl⟩ := List.mem_map.mp hz
            have hy := (List.mergeSort_perm ks leW).mem_iff.mp hy
            obtain ⟨_, _, _, hl⟩ := (mem y).mp hy t List.mem_cons_self
            rw [S_len, sizeLine_eq]
            omega
          · rw [sort_S2]
            have sp2 := sameNew (o := .lst ((((ks.mergeSort leW).mergeSort leL).map S).map V.str)) np2
            have pm := two_perm ks
            refine q p2 _ ((ks.mergeSort leW).mergeSort leL) (s05.trans (sp1.trans sp2)) (s05.free (sp1.free np2)) (by rw [upd_same, List.map_map]; rfl) (by rw [pm.length_eq]; exact lk) ⟨pm.nodup_iff.mpr hks.2, two_sorts ks, fun z => (pm.mem_iff).trans (mem z)⟩
end
end K41

set_option Elab.async false
set_option linter.all false
set_option maxRecDepth 100000
set_option maxHeartbeats 4000000
namespace K41
open PySem PySem.Spec PyProof.Rows L2 CK SX NM
theorem Pq.ne {H : Hp} {D : Addr} {vs : List V} {ps : List (List Nat)} (h : Pq H vs ps) (hD : H D = none) : ∀ l, V.ref l ∈ vs → l ≠ D := by
  induction h with
  | nil => intro l hl; cases hl
  | cons p _ ih =>
    intro l hl
    rcases List.mem_cons.mp hl with e | e
    · cases e; exact ne_of_none p hD
    · exact ih l e
/-- the points whose numbers make at most N together -/
def lrow (N : Nat) (pt : List Nat) : List (List Nat) := ((List.range (N + 1)).filter fun k => decide (pt.sum + k ≤ N)).map fun k => pt ++ [k]
def lstep (N : Nat) (pts : List (List Nat)) : List (List Nat) := pts.flatMap (lrow N)
def lbox : Nat → Nat → List (List Nat)
  | 0, _ => [[]]
  | m + 1, N => lstep N (lbox m N)
theorem lbox_mem {N : Nat} : ∀ {m : Nat} {pt : List Nat}, pt ∈ lbox m N ↔ pt.length = m ∧ pt.sum ≤ N
  | 0, pt => by
    rw [show lbox 0 N = [[]] from rfl, List.mem_singleton]
    constructor
    · rintro rfl; exact ⟨rfl, Nat.zero_le _⟩
    · exact fun h => List.length_eq_zero_iff.mp h.1
  | m + 1, pt => by
    show pt ∈ (lbox m N).flatMap (lrow N) ↔ _
    rw [List.mem_flatMap]
    constructor
    · rintro ⟨q, hq, h⟩
      obtain ⟨k, hk, rfl⟩ := List.mem_map.mp h
      obtain ⟨_, hk⟩ := List.mem_filter.mp hk
      have hk := of_decide_eq_true hk
      obtain ⟨h1, _⟩ := lbox_mem.mp hq
      exact ⟨by simp [h1], by simp; omega⟩
    · rintro ⟨h1, h2⟩
      have ne : pt ≠ [] := fun e => by rw [e] at h1; simp at h1
      have e := List.dropLast_concat_getLast ne
      have hs : pt.sum = pt.dropLast.sum + pt.getLast ne := by
        conv => lhs; rw [← e]
        simp
      refine ⟨pt.dropLast, lbox_mem.mpr ⟨by simp [h1], by omega⟩, List.mem_map.mpr ⟨pt.getLast ne, List.mem_filter.mpr ⟨List.mem_range.mpr (by omega), decide_eq_true (by omega)⟩, e⟩⟩
theorem lrow_len (N : Nat) (pt : List Nat) : (lrow N pt).length ≤ N + 1 := by
  unfold lrow
  rw [List.length_map]
  exact Nat.le_trans (List.length_filter_le _ _) (by rw [List.length_range]; exact Nat.le_refl _)
theorem lstep_len (N : Nat) : ∀ pts : List (List Nat), (lstep N pts).length ≤ pts.length * (N + 1)
  | [] => Nat.zero_le _
  | p :: r => by
    have a := lrow_len N p
    have b := lstep_len N r
    unfold lstep at b ⊢
    rw [List.flatMap_cons, List.length_append, List.length_cons, Nat.succ_mul]
    omega
theorem lbox_len (N : Nat) : ∀ m : Nat, (lbox m N).length ≤ (N + 1) ^ m
  | 0 => Nat.le_refl 1
  | m + 1 => by
    have a := lstep_len N (lbox m N)
    have b := Nat.mul_le_mul_right (N + 1) (lbox_len N m)
    rw [Nat.pow_succ]
    exact Nat.le_trans a b
theorem sum_natI : ∀ l : List Nat, (l.map fun n : Nat => ((n : Nat) : Int)).sum = ((l.sum : Nat) : Int)
  | [] => rfl
  | a :: l => by rw [List.map_cons, List.sum_cons, sum_natI l, List.sum_cons, Int.natCast_add]
theorem natsV_I (l : List Nat) : natsV l = (l.map fun n : Nat => ((n : Nat) : Int)).map V.int := by
  unfold natsV
  rw [List.map_map]
  rfl
section
variable {P : Program} {w : World} {K : PySem.W.Frag} {mg : Str → Option Value} {base : Heap} {C : Addr}
def sp_box : Sp := fun vs H Q _ => ∃ m N : Nat, vs = [.int m, .int N] ∧ m ≤ 3 ∧ N ≤ 20 ∧ ∀ D H', Same H H' → PqL H' D (lbox m N) → Q (.ref D) H'
theorem c_law_box (T : Txt K mg C) : C8.Cal P w K mg base 1 "_law_box" sp_box [] := by
  refine calF T.d_law_box sc_law_box (fun vs H Q E h => ?_) (fun f0 cdv A outer s H vs Q E hr h => ?_)
  · obtain ⟨_, _, rfl, _⟩ := h; rfl
  · obtain ⟨m, N, rfl, m3, hN, q⟩ := h
    refine ⟨_, (pss_cons (ps_set (i := 2) sc_law_box.nd rfl (Or.inl rfl) (pe_lst (pa_cons (pe_lst pa_nil) pa_nil)))
    (pss_cons (ps_for PassesOwn.never rfl (pi_range1 (by rfl) T.m_range (pa_cons (pv 0) pa_nil)) (pg_name (i := 3) sc_law_box.nd rfl (Or.inl rfl))
    (pss_cons (ps_set (i := 4) sc_law_box.nd rfl (Or.inl rfl) (pe_lst pa_nil))
    (pss_cons (ps_for PassesOwn.never rfl (pi_list (pv 2)) (pg_name (i := 5) sc_law_box.nd rfl (Or.inr rfl))
    (pss_one (ps_set (i := 4) sc_law_box.nd rfl (Or.inl rfl) (pe_op op_cat (pv 4) (pe_lc (own := [("_law_count", 6)]) (by rfl) sc_law_box.nd (pi_range1 (by rfl) T.m_range (pa_cons (pe_op op_add (pv 1) pe_int) pa_nil)) (blkOk_by (N := ["_law_many", "_law_most", "_law_found", "_law_turn", "_law_grown", "_law_point", "_law_count"]) (sc := C8.fnScope (topS 73)) (own := [("_law_count", 6)]) (by decide +kernel)) (fun _ _ _ _ _ => (pg_name (i := 6) sc_law_box.nd rfl (Or.inl rfl))) (fun _ _ _ _ _ => (pts_one (pt_cmpR op_le (pe_op op_add (pe_callB (cr_sumH rfl) (by rfl) T.m_sum (by decide +kernel) (pa_cons (pv 5) pa_nil)) (pv 6)) (pv 1) (nomark _)))) (fun _ _ _ _ _ => (pe_op op_cat (pv 5) (pe_lst (pa_cons (pv 6) pa_nil)))))))))
    (pss_one (ps_set (i := 2) sc_law_box.nd rfl (Or.inl rfl) (pv 4))))))
    (pss_one (ps_ret (pv 2))))), ?_⟩
    refine ⟨by show 0 ≤ sizeLine; decide, fun l0 n0 => ⟨by show 1 ≤ sizeLine; decide, fun D0 nD0 => ?_⟩⟩
    have s0 := sameNew (o := .lst []) n0
    have sD := sameNew (o := .lst [.ref l0]) nD0
    have sA := s0.trans sD
    refine ⟨_, rfl, (m : Int), rfl, by omega, by omega, ?_⟩
    refine for_it walk_range (fun i σ H' => i ≤ m ∧ Same H H' ∧ ∃ (D : Addr) (y3 y4 y5 : Option V), σ = [some (.int m), some (.int N), some (.ref D), y3, y4, y5, none] ∧ PqL H' D (lbox i N))
      ⟨Nat.zero_le _, sA, D0, none, none, none, rfl, [.ref l0], upd_same, .cons (sD _ _ upd_same) .nil⟩ (fun _ _ _ _ _ => True.intro) (fun i x σ H' H'' hi pI yy => ?_) fun σ H' pI => ?_
    · obtain ⟨_, s1, D, y3, y4, y5, rfl, vs, hvs, pvs⟩ := pI
      obtain ⟨rfl, rfl⟩ := yy
      have im : i < m := by
        have : i < ((m : Int)).toNat := hi
        omega
      refine ⟨by show 0 ≤ sizeLine; decide, fun G0 nG0 => ?_⟩
      have sG := sameNew (o := .lst []) nG0
      have lv := pvs.len
      have bx : (lbox (i + 1) N).length ≤ 10000 := by
        have a := lbox_len N (i + 1)
        have b1 : (N + 1) ^ (i + 1) ≤ (N + 1) ^ 3 := Nat.pow_le_pow_right (by omega) (by omega)
        have b2 : (N + 1) ^ 3 ≤ 21 ^ 3 := Nat.pow_le_pow_left (by omega) 3
        have b3 : 21 ^ 3 ≤ 10000 := by decide
        omega
      have few : ∀ j, (lstep N ((lbox i N).take j)).length ≤ (lbox (i + 1) N).length := fun j => by
        show _ ≤ (lstep N (lbox i N)).length
        conv => rhs; rw [← List.take_append_drop j (lbox i N)]
        unfold lstep
        rw [List.flatMap_append, List.length_append]
        omega
      refine ⟨_, rfl, D, rfl, ⟨_, .inl (.inl (sG _ _ hvs))⟩, ?_⟩
      refine for_list (K := K) (a := D) (xs := vs) (fun j σ HH => Same H'' HH ∧ ∃ (G : Addr) (y5 : Option V) (ws : List V), σ = [some (.int m), some (.int N), some (.ref D), some (.int (0 + (i : Int))), some (.ref G), y5, none] ∧ HH G = some (.lst ws) ∧ Pq HH ws (lstep N ((lbox i N).take j)))
        ⟨sG, G0, y5, [], rfl, upd_same, .nil⟩ (fun j σ HH _ p => .inl (.inl (p.1 _ _ hvs))) (fun j v σ HH hj pJ => ?_) (fun σ HH pJ => ?_)
      · obtain ⟨s2, G, y5, ws, rfl, hG, pws⟩ := pJ
        obtain ⟨l, pt, rfl, hpt, hl0⟩ := pvs.get hj
        have hl : HH l = some (.lst (natsV pt)) := s2 _ _ hl0
        have lpt : pt.length ≤ 3 := by rw [(lbox_mem.mp (List.mem_of_getElem? hpt)).1]; omega
        have lws := pws.len
        have f0 := few (j + 1)
        have eS : lstep N ((lbox i N).take (j + 1)) = lstep N ((lbox i N).take j) ++ lrow N pt := by
          unfold lstep
          rw [List.take_succ, hpt, List.flatMap_append]
          simp
        rw [eS] at f0 ⊢
        rw [List.length_append] at f0
        have lr := lrow_len N pt
        refine ⟨_, rfl, _, rfl, _, _, rfl, rfl, _, rfl, by omega, by omega, fun Dc hDc => ?_⟩
        have eN : (((N : Nat) : Int) + 1).toNat = N + 1 := by omega
        refine lc_range (fun k HC => Same HH HC ∧ ∃ us, HC Dc = some (.lst us) ∧ Pq HC us (((List.range k).filter fun k => decide (pt.sum + k ≤ N)).map fun k => pt ++ [k]) ∧ ∀ l, V.ref l ∈ us → l ≠ Dc) ⟨sameNew hDc, [], upd_same, .nil, fun l hl => by cases hl⟩ (fun k HC hk p => ?_) fun HC p => ?_
        · obtain ⟨sC, us, hus, pus, farC⟩ := p
          have hlC : HC l = some (.lst (natsV pt)) := sC _ _ hl
          have lus := pus.len
          have lf := List.length_filter_le (fun k => decide (pt.sum + k ≤ N)) (List.range k)
          rw [List.length_map] at lus
          rw [List.length_range] at lf
          have eR : ((List.range (k + 1)).filter fun k => decide (pt.sum + k ≤ N)).map (fun k => pt ++ [k]) = ((List.range k).filter fun k => decide (pt.sum + k ≤ N)).map (fun k => pt ++ [k]) ++ (if pt.sum + k ≤ N then [pt ++ [k]] else []) := by
            rw [List.range_succ, List.filter_append, List.map_append]
            congr 1
            rw [List.filter_cons, List.filter_nil]
            by_cases z : pt.sum + k ≤ N
            · rw [if_pos z, if_pos (decide_eq_true z)]; rfl
            · rw [if_neg z, if_neg (fun h => z (of_decide_eq_true h))]; rfl
          rw [eR]
          refine ⟨rfl, _, rfl, l, pt.map fun n : Nat => ((n : Nat) : Int), rfl, by rw [hlC, natsV_I], _, rfl, _, _, rfl, rfl, _, rfl, _, _, rfl, rfl, _, rfl, ?_⟩
          rw [sum_natI]
          by_cases z : pt.sum + k ≤ N
          · rw [decide_eq_true (show ((pt.sum : Nat) : Int) + (0 + ((k : Nat) : Int)) ≤ ((N : Nat) : Int) by omega), if_pos z]
            refine iteT ?_
            refine ⟨_, rfl, _, rfl, by show 1 ≤ sizeLine; decide, fun l1 n1' => ?_⟩
            have st1 := sameNew (o := .lst [.int (0 + (k : Int))]) n1'
            refine ⟨l, l1, _, _, rfl, rfl, st1 _ _ hlC, upd_same, by rw [natsV_len, sizeLine_eq]; simp; omega, fun l2 n2' => ?_⟩
            have st2 := sameNew (o := .lst (natsV pt ++ [.int (0 + (k : Int))])) n2'
            have sE := st1.trans st2
            have husE := sE _ _ hus
            have l2D : l2 ≠ Dc := fun z => by rw [z, st1 _ _ hus] at n2'; cases n2'
            have e2 : natsV pt ++ [V.int (0 + (k : Int))] = natsV (pt ++ [k]) := by
              unfold natsV
              rw [List.map_append, Int.zero_add]
              rfl
            have hl2 := upd_same (H := upd HC l1 (.lst [.int (0 + (k : Int))])) (a := l2) (o := .lst (natsV pt ++ [.int (0 + (k : Int))]))
            refine ⟨us, husE, by rw [lus]; rw [eN] at hk; rw [sizeLine_eq]; omega, same_upd2 hDc (sC.trans sE), _, upd_same, ?_, fun y hy => ?_⟩
            · exact ((pus.same sE).upd fun l hl => farC l hl).app (.cons (show L2.upd _ Dc _ l2 = some (.lst (natsV (pt ++ [k]))) by rw [upd_ne l2D, ← e2]; exact hl2) .nil)
            · rcases List.mem_append.mp hy with z | z
              · exact farC y z
              · have := List.mem_singleton.mp z
                cases this
                exact l2D
          · rw [decide_eq_false (show ¬ ((pt.sum : Nat) : Int) + (0 + ((k : Nat) : Int)) ≤ ((N : Nat) : Int) by omega), if_neg z, List.append_nil]
            exact iteF ⟨sC, us, hus, pus, farC⟩
        · obtain ⟨sC, us, hus, pus, farC⟩ := p
          rw [eN] at pus
          have pus : Pq HC us (lrow N pt) := pus
          have lus := pus.len
          refine ⟨G, Dc, _, _, rfl, rfl, sC _ _ hG, hus, by rw [lws, lus, sizeLine_eq]; omega, fun G2 nG2 => ?_⟩
          have s4 := sameNew (o := .lst (ws ++ us)) nG2
          exact ⟨(s2.trans sC).trans s4, G2, _, ws ++ us, rfl, upd_same, ((pws.same sC).app pus).same s4⟩
      · obtain ⟨s2, G, y5, ws, rfl, hG, pws⟩ := pJ
        rw [lv, List.take_length] at pws
        exact ⟨_, rfl, im, s1.trans s2, G, _, _, _, rfl, ws, hG, pws⟩
    · obtain ⟨_, s1, D, y3, y4, y5, rfl, nl⟩ := pI
      rw [Int.toNat_natCast] at nl
      exact ⟨_, rfl, q D H' s1 nl⟩
end
end K41

set_option Elab.async false
set_option linter.all false
set_option maxRecDepth 100000
set_option maxHeartbeats 8000000
namespace K41
open PySem PySem.Spec PyProof.Rows L2 CK SX NM
theorem dot_le {B N : Nat} : ∀ (f pt : List Nat), Up B f → (∀ x ∈ pt, x ≤ N) → dot f pt ≤ pt.length * (B * N)
  | [], _, _, _ => by simp [dot]
  | _ :: _, [], _, _ => by simp [dot]
  | a :: f, b :: pt, hf, hp => by
    have ih := dot_le f pt (fun x hx => hf x (List.mem_cons_of_mem _ hx)) fun x hx => hp x (List.mem_cons_of_mem _ hx)
    have h := Nat.mul_le_mul (hf a List.mem_cons_self) (hp b List.mem_cons_self)
    rw [dot, List.length_cons, Nat.succ_mul]
    omega
theorem valF_le {B N : Nat} {f pt : List Nat} (hf : Up B f) (hp : ∀ x ∈ pt, x ≤ N) : valF f pt ≤ B + pt.length * (B * N) := by
  have a := dot_le f.tail pt (fun x hx => hf x (List.mem_of_mem_tail hx)) hp
  have b : f.headD 0 ≤ B := by
    cases f with
    | nil => exact Nat.zero_le _
    | cons x f => exact hf x List.mem_cons_self
  unfold valF
  omega
theorem wr_le {a b : Nat} {pt : List Nat} : ∀ ps : List Pn, (∀ p ∈ ps, p.1.length ≤ a ∧ valF p.2 pt ≤ b) → (wr pt ps).length ≤ ps.length * (a * b)
  | [], _ => Nat.zero_le _
  | p :: r, h => by
    have ih := wr_le r fun q hq => h q (List.mem_cons_of_mem _ hq)
    obtain ⟨h1, h2⟩ := h p List.mem_cons_self
    have e : (wrt pt p).length = p.1.length * valF p.2 pt := WM.pw_len _ _
    have := Nat.mul_le_mul h1 h2
    rw [wr, List.length_append, e, List.length_cons, Nat.succ_mul]
    omega
theorem Dr.wr {m N : Nat} {ps : List Pn} {pt : List Nat} (h : Dr m ps) (few : ps.length ≤ 5) (m3 : m ≤ 3) (lpt : pt.length = m) (hp : ∀ x ∈ pt, x ≤ N) (hN : N ≤ 20) : (∀ p ∈ ps, p.1.length ≤ 4 ∧ valF p.2 pt ≤ 122) ∧ (NM.wr pt ps).length ≤ 2440 := by
  have a : ∀ p ∈ ps, p.1.length ≤ 4 ∧ valF p.2 pt ≤ 122 := fun p hp' => by
    obtain ⟨h1, h2, _, h4⟩ := h p hp'
    refine ⟨h2, ?_⟩
    have := valF_le h4 hp
    have := Nat.mul_le_mul (show pt.length ≤ 3 by omega) (show 2 * N ≤ 40 by omega)
    omega
  refine ⟨a, ?_⟩
  have := wr_le ps a
  omega
theorem up_bf {f : F} (h : Up 2 f) : Bf f := fun n hn => Nat.lt_of_le_of_lt (h n hn) (Nat.lt_of_lt_of_le (by decide : 2 < 2 ^ 2) (Nat.pow_le_pow_right (by decide) (by decide)))
theorem low_bf {N : Nat} {f : List Nat} (h : ∀ x ∈ f, x ≤ N) (hN : N ≤ 10000) : Bf f := fun n hn => Nat.lt_of_le_of_lt (Nat.le_trans (h n hn) hN) (Nat.lt_of_lt_of_le (by decide : 10000 < 2 ^ 20) (Nat.pow_le_pow_right (by decide) (by decide)))
theorem gname_eq (i : Nat) (v : V) (σ : L2.St) (H : Hp) (Q : L2.St → Hp → Prop) : gName i v σ H Q = Q (σ.set i (some v)) H := rfl
theorem tnext_eq (D : Ends) (σ : L2.St) (H : Hp) : tNext D σ H = D.nx σ H := rfl
theorem meas_few : ∀ {ps : List Pn} {m : Nat}, Dr m ps → meas ps ≤ 12 * ps.length
  | [], _, _ => Nat.le_refl _
  | p :: r, m, h => by
    have ih := meas_few (ps := r) (m := m) fun q hq => h q (List.mem_cons_of_mem _ hq)
    obtain ⟨_, h2, _, h4⟩ := h p List.mem_cons_self
    have e : meas (p :: r) = measP p + meas r := by unfold meas; rw [List.map_cons, List.sum_cons]
    have : measP p ≤ 4 * 3 := by
      unfold measP
      have : p.2.headD 0 ≤ 2 := by
        cases e : p.2 with
        | nil => exact Nat.zero_le _
        | cons x f => exact h4 x (by rw [e]; exact List.mem_cons_self)
      exact Nat.mul_le_mul h2 (by split <;> omega)
    rw [e, List.length_cons]
    omega
theorem low_wr {pt : List Nat} : ∀ {ps : List Pn}, (∀ p ∈ ps, Low p.1) → Low (NM.wr pt ps)
  | [], _ => fun c h => by cases h
  | p :: r, h => low_app (low_pw (h p List.mem_cons_self) _) (low_wr fun q hq => h q (List.mem_cons_of_mem _ hq))
theorem Dr.gl {m : Nat} {ps : List Pn} {H : Hp} {L : Addr} (h : Dr m ps) (pl : PL H L ps) (few : ps.length ≤ 5) : GL H m L ps :=
  ⟨pl, fun p hp => (h p hp).1, fun p hp => by have := (h p hp).2.1; omega, fun p hp => (h p hp).2.2.1, fun p hp => up_bf (h p hp).2.2.2, by omega⟩
theorem Dr.ones {m : Nat} {ps : List Pn} (h : Dr m ps) (few : ps.length ≤ 5) (m3 : m ≤ 3) : (NM.wr (List.replicate m 1) ps).length ≤ 2440 :=
  (h.wr (pt := List.replicate m 1) (N := 1) few m3 (by simp) (fun x hx => by rw [List.eq_of_mem_replicate hx]; exact Nat.le_refl _) (by decide)).2
theorem Dr.wl {m : Nat} {ps : List Pn} (h : Dr m ps) (few : ps.length ≤ 5) (m3 : m ≤ 3) : Wl m ps :=
  Nat.lt_of_le_of_lt (h.ones few m3) (Nat.lt_of_lt_of_le (by decide : 2440 < 2 ^ 20) (Nat.pow_le_pow_right (by decide) (by decide)))
theorem ukn_norm {m i : Nat} {ps : List Pn} (l : LenF m ps) (hi : i < m) {p : Pn} (hp : p ∈ ps) (ne : p.1 ≠ []) (h1 : p.2.getD (i + 1) 0 ≠ 0) : ukn (normL ps) i = true := by
  rw [ukn_iff (nm_normL l) hi, wr_normL l, wr_normL l, len_eP hi ps l]
  have : (ps.map fun p => p.1.length * p.2.getD (i + 1) 0).sum ≠ 0 := fun z => by
    have := (sum_zero _).mp z _ (List.mem_map.mpr ⟨p, hp, rfl⟩)
    have n0 := List.length_pos_iff.mpr ne
    rcases Nat.mul_eq_zero.mp this with y | y
    · omega
    · exact h1 y
  omega
theorem get_eP {i m : Nat} (h : i < m) : (0 :: eP i m).getD (i + 1) 0 = 1 := by
  unfold eP
  rw [List.getD_cons_succ, List.getD_eq_getElem?_getD, List.getElem?_map, List.getElem?_range h]
  simp
theorem OT.sameX {C g x : Addr} {H H' : Hp} {m n : Nat} {ps : List Pn} (h : OT C H x m ps) (G : Gn n H g) (s : SameX g H H') : OT C H' x m ps := by
  obtain ⟨a, b, c, hg, _⟩ := id G
  obtain ⟨l, ⟨dx, hx⟩, gl⟩ := h
  obtain ⟨vs, hl, pl⟩ := id gl.at_
  have lg : l ≠ g := fun z => by
    rw [z, hg] at hl
    cases hl
    cases pl
  exact ⟨l, ⟨dx, s _ _ (fun z => by rw [z, hg] at hx; cases hx) hx⟩, ⟨⟨vs, s _ _ lg hl, pl.mono fun a xs e => s.tup G e⟩, gl.len, gl.ws, gl.low, gl.bf, gl.few⟩⟩

theorem le_sum_mem : ∀ {l : List Nat} {x : Nat}, x ∈ l → x ≤ l.sum
  | a :: l, x, h => by
    rw [List.sum_cons]
    rcases List.mem_cons.mp h with e | e
    · omega
    · have := le_sum_mem e
      omega
/-- what the law reckons: the words of at most so many letters -/
def WL (m : Nat) (ps : List Pn) (most : Nat) (z : List Nat) : Prop := ∃ pt ∈ lbox m most, NM.wr pt ps = z ∧ z.length ≤ most
theorem Pq.memP {H : Hp} {vs : List V} {ps : List (List Nat)} (h : Pq H vs ps) {a : Addr} (ha : V.ref a ∈ vs) : ∃ pt ∈ ps, LP H a pt := by
  obtain ⟨i, hi⟩ := List.mem_iff_getElem?.mp ha
  obtain ⟨l, pt, e, hp, hl⟩ := h.get hi
  cases e
  exact ⟨pt, List.mem_of_getElem? hp, hl⟩
theorem Pq.dk {H : Hp} {D : Addr} {kvs lvs : List (Key × V)} {vs : List V} {ps : List (List Nat)} (h : Pq H vs ps) (hD : H D = some (.dK kvs)) : Pq (L2.upd H D (.dK lvs)) vs ps := h.upd fun l hl e => by
  obtain ⟨pt, _, q⟩ := h.memP hl
  have q : H l = _ := q
  rw [e, hD] at q
  cases q
section
variable {P : Program} {w : World} {K : PySem.W.Frag} {mg : Str → Option Value} {base : Heap} {C : Addr}
def sp_law_words : Sp := fun vs H Q _ => ∃ (l : Addr) (m : Nat) (ps : List Pn) (most : Nat), vs = [.int m, .ref l, .int most] ∧ PL H l ps ∧ Dr m ps ∧ ps.length ≤ 5 ∧ m ≤ 3 ∧ most ≤ 20 ∧ ∀ D H' ks, Same H H' → H D = none → Kd H' D ks → ks.length ≤ 10000 → (∀ z, z ∈ ks ↔ WL m ps most z) → Q (.ref D) H'
theorem c_law_words (T : Txt K mg C) : C8.Cal P w K mg base 3 "_law_words" sp_law_words [] := by
  refine calF T.d_law_words sc_law_words (fun vs H Q E h => ?_) (fun f0 cdv A outer s H vs Q E hr h => ?_)
  · obtain ⟨_, _, _, _, rfl, _⟩ := h; rfl
  · obtain ⟨l, m, ps, most, rfl, pl, dr, few, m3, hm, q⟩ := h
    have lF : LenF m ps := fun p hp => (dr p hp).1
    refine ⟨_, (pss_cons (ps_set (i := 3) sc_law_words.nd rfl (Or.inl rfl) pe_dnewK)
    (pss_cons (ps_for PassesOwn.never rfl (pi_list (C8.pe_c (c_law_box T) hr (by decide) (by rfl) (pa_cons (pv 0) (pa_cons (pv 2) pa_nil)))) (pg_name (i := 4) sc_law_words.nd rfl (Or.inl rfl))
    (pss_cons (ps_set (i := 5) sc_law_words.nd rfl (Or.inl rfl) (C8.pe_c (c_law_write T) hr (by decide) (by rfl) (pa_cons (pv 1) (pa_cons (pv 4) pa_nil))))
    (pss_one (ps_if (pt_cmpR op_le (pe_callB call_len_str (by rfl) T.m_len (by decide +kernel) (pa_cons (pv 5) pa_nil)) (pv 2) (nomark _))
    (pss_one (ps_dput (room1 hr) (pv 3) (pv 5) pe_bl rfl))
    pss_nil))))
    (pss_one (ps_ret (pv 3))))), ?_⟩
    refine fun D nD => ?_
    have sD := sameNew (o := .dK []) nD
    have hD0 := upd_same (H := H) (a := D) (o := .dK [])
    generalize upd H D (.dK []) = H1 at sD hD0 ⊢
    refine ⟨_, rfl, _, rfl, m, most, rfl, m3, hm, fun B H2 s2 pb => ?_⟩
    obtain ⟨us, hus, pus⟩ := pb
    have lu := pus.len
    have bx : (lbox m most).length ≤ 10000 := by
      have a := lbox_len most m
      have b1 : (most + 1) ^ m ≤ (most + 1) ^ 3 := Nat.pow_le_pow_right (by omega) (by omega)
      have b2 : (most + 1) ^ 3 ≤ 21 ^ 3 := Nat.pow_le_pow_left (by omega) 3
      have b3 : 21 ^ 3 ≤ 10000 := by decide
      omega
    refine ⟨B, rfl, ⟨_, .inl (.inl hus)⟩, for_list (K := K) (a := B) (xs := us) (fun i σ HH => Same H HH ∧ ∃ (y4 y5 : Option V) (ks : List (List Nat)), σ = [some (.int m), some (.ref l), some (.int most), some (.ref D), y4, y5] ∧ HH B = some (.lst us) ∧ Pq HH us (lbox m most) ∧ Kd HH D ks ∧ ks.length ≤ i ∧ ∀ z, z ∈ ks ↔ ∃ pt ∈ (lbox m most).take i, NM.wr pt ps = z ∧ z.length ≤ most)
      ⟨sD.trans s2, none, none, [], rfl, hus, pus, ⟨[], s2 _ _ hD0, .nil⟩, Nat.le_refl _, fun z => by simp⟩ (fun i σ HH _ p => .inl (.inl (by obtain ⟨_, _, _, _, _, h, _⟩ := p; exact h))) (fun i v σ HH hi pI => ?_) fun σ HH pI => ?_⟩
    · obtain ⟨s3, y4, y5, ks, rfl, hB, pB, ⟨kvs, hk, kk⟩, lk, mem⟩ := pI
      obtain ⟨y, pt, rfl, hpt, hy⟩ := pB.get hi
      have iu : i < us.length := (List.getElem?_eq_some_iff.mp hi).1
      have mm := List.mem_of_getElem? hpt
      obtain ⟨lpt, spt⟩ := lbox_mem.mp mm
      have bpt : ∀ x ∈ pt, x ≤ most := fun x hx => Nat.le_trans (le_sum_mem hx) spt
      obtain ⟨bw, bw2⟩ := dr.wr few m3 lpt bpt hm
      have BD : B ≠ D := fun e => by rw [e, hk] at hB; cases hB
      have eT : (lbox m most).take (i + 1) = (lbox m most).take i ++ [pt] := by
        rw [List.take_succ, hpt]
        rfl
      refine ⟨_, rfl, _, rfl, l, y, m, ps, pt, rfl, pl.same s3, hy, lF, lpt, m3, fun p hp => ⟨up_bf (dr p hp).2.2.2, by have := (bw p hp).1; omega, by have := (bw p hp).2; omega⟩, low_bf bpt (by omega), by omega, by omega, fun H4 s4 => ?_⟩
      dsimp only
      rw [gname_eq]
      try dsimp only
      have hk4 := s4 _ _ hk
      have memT : ∀ z, (∃ pt' ∈ (lbox m most).take (i + 1), NM.wr pt' ps = z ∧ z.length ≤ most) ↔ z ∈ ks ∨ (NM.wr pt ps = z ∧ z.length ≤ most) := fun z => by
        rw [eT, mem]
        constructor
        · rintro ⟨p', h1, h2⟩
          rcases List.mem_append.mp h1 with h | h
          · exact .inl ⟨p', h, h2⟩
          · rw [List.mem_singleton.mp h] at h2
            exact .inr h2
        · rintro (⟨p', h1, h2⟩ | h)
          · exact ⟨p', List.mem_append.mpr (.inl h1), h2⟩
          · exact ⟨pt, List.mem_append.mpr (.inr List.mem_cons_self), h⟩
      refine if_end (decide ((NM.wr pt ps).length ≤ most)) (fun R q' => ?_) (fun bb H5 s5 => ?_) fun bb H5 s5 => ?_
      · refine ⟨_, rfl, S (NM.wr pt ps), rfl, len_line (by omega), _, rfl, _, _, rfl, rfl, _, rfl, ?_⟩
        rw [S_len]
        have := q' H4 (Same.refl _)
        rw [show decide (((NM.wr pt ps).length : Int) ≤ (most : Int)) = decide ((NM.wr pt ps).length ≤ most) from decide_eq_decide.mpr (by omega)]
        exact this
      · have e := of_decide_eq_true bb
        have hk5 := s5 _ _ hk4
        obtain ⟨ls, k1, k2, k3⟩ := kk.put (NM.wr pt ps) (.bl true)
        have lkv := kk.len
        refine ⟨_, rfl, _, rfl, D, _, rfl, DPut.k (k := Sum.inr (S (NM.wr pt ps))) hk5 (by rw [sizeLine_eq]; omega), ?_⟩
        refine ⟨same_upd2 nD ((s3.trans s4).trans s5), _, _, ls, rfl, by rw [upd_ne BD]; exact s5 _ _ (s4 _ _ hB), ((pB.same s4).same s5).dk hk5, ⟨_, upd_same, k1⟩, by omega, fun z => ?_⟩
        rw [memT, k2]
        constructor
        · rintro (h | h)
          · exact .inl h
          · exact .inr ⟨h.symm, h ▸ e⟩
        · rintro (h | ⟨h, _⟩)
          · exact .inl h
          · exact .inr h.symm
      · have e := of_decide_eq_false bb
        rw [tnext_eq]
        refine ⟨(s3.trans s4).trans s5, _, _, ks, rfl, s5 _ _ (s4 _ _ hB), (pB.same s4).same s5, ⟨kvs, s5 _ _ hk4, kk⟩, by omega, fun z => ?_⟩
        rw [memT]
        constructor
        · exact .inl
        · rintro (h | ⟨h, h2⟩)
          · exact h
          · exact absurd (h ▸ h2) e
    · obtain ⟨s3, y4, y5, ks, rfl, hB, pB, kd, lk, mem⟩ := pI
      rw [lu] at lk
      rw [lu, List.take_length] at mem
      exact ⟨_, rfl, q D HH ks s3 nD kd (by omega) mem⟩
end
end K41

set_option Elab.async false
set_option linter.all false
set_option maxRecDepth 100000
set_option maxHeartbeats 8000000
namespace K41
open PySem PySem.Spec PyProof.Rows L2 CK SX NM
def dZ (z : List Nat) : PyData := .tuple [.int (z.length : Nat), .str (S z)]
def gH (H : Hp) (v : V) : List Nat := match v with
  | .ref t => match H t with
    | some (.tup [_, .str s]) => s.cps.toList
    | _ => []
  | _ => []
theorem gH_at {H : Hp} {t : Addr} {z : List Nat} {n : V} (h : H t = some (.tup [n, .str (S z)])) : gH H (.ref t) = z := by
  unfold gH
  simp only [h]
theorem rk_data {a b : List Nat} (h : PySem.W.dataLe false dZ a b = true) : Rk a b := by
  have h : (!PySem.W.dataLt (dZ b) (dZ a)) = true := h
  unfold dZ at h
  rw [PySem.W.dataLt_pair (by simp [PySem.W.alike]) (by simp [PySem.W.alike]), PySem.W.dataLt_int, PySem.W.dataLt_str] at h
  simp only [PyData.eqv, beq_iff_eq] at h
  by_cases e : b.length = a.length
  · rw [if_pos (by rw [e])] at h
    refine .inr ⟨e.symm, ?_⟩
    by_cases e2 : S b = S a
    · rw [S_inj e2]
      exact List.le_refl _
    · rw [if_neg e2] at h
      have h : (!decide (b < a)) = true := h
      have := of_decide_eq_false (by simpa using h : decide (b < a) = false)
      exact List.not_lt.mp this
  · rw [if_neg (by omega)] at h
    have := of_decide_eq_false (by simpa using h : decide ((b.length : Int) < (a.length : Int)) = false)
    exact .inl (by omega)
theorem sort_dZ (zs : List (List Nat)) : (zs.mergeSort (PySem.W.dataLe false dZ)).Pairwise Rk :=
  (PySem.W.sort_pairwise (PySem.W.sortLe_total _ _ _) zs).imp fun h => rk_data h
/-- pairs of a length and its word -/
inductive Fnd (H : Hp) : List V → List (List Nat) → Prop
  | nil : Fnd H [] []
  | cons {t : Addr} {z : List Nat} {vs : List V} {zs : List (List Nat)} : H t = some (.tup [.int (z.length : Nat), .str (S z)]) → Fnd H vs zs → Fnd H (.ref t :: vs) (z :: zs)
theorem Fnd.mono {H H' : Hp} {vs : List V} {zs : List (List Nat)} (h : Fnd H vs zs) (s : ∀ a xs, H a = some (.tup xs) → H' a = some (.tup xs)) : Fnd H' vs zs := by
  induction h with
  | nil => exact .nil
  | cons e _ ih => exact .cons (s _ _ e) ih
theorem Fnd.len {H : Hp} {vs : List V} {zs : List (List Nat)} (h : Fnd H vs zs) : vs.length = zs.length := by
  induction h with
  | nil => rfl
  | cons _ _ ih => simp [ih]
theorem Fnd.snoc {H : Hp} {vs : List V} {zs : List (List Nat)} {t : Addr} {z : List Nat} (h : Fnd H vs zs) (e : H t = some (.tup [.int (z.length : Nat), .str (S z)])) : Fnd H (vs ++ [.ref t]) (zs ++ [z]) := by
  induction h with
  | nil => exact .cons e .nil
  | cons e' _ ih => exact .cons e' ih
theorem Fnd.map {H : Hp} {vs : List V} {zs : List (List Nat)} (h : Fnd H vs zs) : vs.map (gH H) = zs ∧ ∀ v ∈ vs, ∃ t, v = .ref t ∧ H t = some (.tup [.int ((gH H v).length : Nat), .str (S (gH H v))]) := by
  induction h with
  | nil => exact ⟨rfl, fun v hv => by cases hv⟩
  | cons e _ ih =>
    refine ⟨by rw [List.map_cons, gH_at e, ih.1], fun v hv => ?_⟩
    rcases List.mem_cons.mp hv with x | x
    · rw [x, gH_at e]
      exact ⟨_, rfl, e⟩
    · exact ih.2 v x
/-- texts as the law keeps them -/
def Dd (H : Hp) (d : Tt) : Prop := ∃ l, H d.1 = some (.tup [.int (d.2.1 : Nat), .ref l]) ∧ PL H l d.2.2 ∧ Dr d.2.1 d.2.2 ∧ d.2.2.length ≤ 5 ∧ d.2.1 ≤ 3
theorem Dd.same {H H' : Hp} {d : Tt} (h : Dd H d) (s : Same H H') : Dd H' d := by
  obtain ⟨l, h1, h2, h3⟩ := h
  exact ⟨l, s _ _ h1, h2.same s, h3⟩
/-- the tables -/
inductive Tb (most : Nat) (H : Hp) : List V → List Tt → Prop
  | nil : Tb most H [] []
  | cons {D : Addr} {kvs : List (Key × V)} {ks : List (List Nat)} {d : Tt} {vs : List V} {ds : List Tt} : Rd H D (.dK kvs) → Ks kvs ks → ks.length ≤ 10000 → (∀ z, z ∈ ks ↔ WL d.2.1 d.2.2 most z) → Tb most H vs ds → Tb most H (.ref D :: vs) (d :: ds)
theorem Tb.mono {most : Nat} {H H' : Hp} {vs : List V} {ds : List Tt} (h : Tb most H vs ds) (s : ∀ D kvs, Rd H D (.dK kvs) → Rd H' D (.dK kvs)) : Tb most H' vs ds := by
  induction h with
  | nil => exact .nil
  | cons a b c d _ ih => exact .cons (s _ _ a) b c d ih
theorem rd_same {H H' : Hp} (s : Same H H') : ∀ D kvs, Rd H D (.dK kvs) → Rd H' D (.dK kvs) := fun D kvs h => h.elim (fun h => .inl (s _ _ h)) fun ⟨o, h⟩ => .inr ⟨o, s _ _ h⟩
theorem rd_lst {H : Hp} {F : Addr} {xs ys : List V} (hF : H F = some (.lst xs)) : ∀ D kvs, Rd H D (.dK kvs) → Rd (upd H F (.lst ys)) D (.dK kvs) := fun D kvs h => by
  have ne : D ≠ F := fun e => by
    rcases h with h | ⟨o, h⟩ <;> (rw [e, hF] at h; cases h)
  rcases h with h | ⟨o, h⟩
  · exact .inl (by rw [upd_ne ne]; exact h)
  · exact .inr ⟨o, by rw [upd_ne ne]; exact h⟩
theorem rd_lock {H : Hp} {D0 : Addr} {od : Obj} {kvs0 : List (Key × V)} (h0 : H D0 = some (.dK kvs0)) : ∀ D kvs, Rd H D (.dK kvs) → Rd (upd H D0 (.frz od (.dK kvs0))) D (.dK kvs) := fun D kvs h => by
  by_cases e : D = D0
  · rw [e] at h ⊢
    rcases h with h | ⟨o, h⟩
    · rw [h0] at h
      cases h
      exact .inr ⟨od, upd_same⟩
    · rw [h0] at h
      cases h
  · rcases h with h | ⟨o, h⟩
    · exact .inl (by rw [upd_ne e]; exact h)
    · exact .inr ⟨o, by rw [upd_ne e]; exact h⟩
theorem Tb.len {most : Nat} {H : Hp} {vs : List V} {ds : List Tt} (h : Tb most H vs ds) : vs.length = ds.length := by
  induction h with
  | nil => rfl
  | cons _ _ _ _ _ ih => simp [ih]
theorem Tb.snoc {most : Nat} {H : Hp} {vs us : List V} {ds es : List Tt} (h : Tb most H vs ds) (g : Tb most H us es) : Tb most H (vs ++ us) (ds ++ es) := by
  induction h with
  | nil => exact g
  | cons a b c d _ ih => exact .cons a b c d ih
theorem Tb.get {most : Nat} {H : Hp} {vs : List V} {ds : List Tt} (h : Tb most H vs ds) : ∀ {i : Nat} {v : V}, vs[i]? = some v → ∃ D kvs ks d, v = .ref D ∧ ds[i]? = some d ∧ Rd H D (.dK kvs) ∧ Ks kvs ks ∧ ∀ z, z ∈ ks ↔ WL d.2.1 d.2.2 most z := by
  induction h with
  | nil => intro i v hi; simp at hi
  | cons a b c d _ ih =>
    intro i v hi
    cases i with
    | zero => cases hi; exact ⟨_, _, _, _, rfl, rfl, a, b, d⟩
    | succ i => exact ih hi
section
variable {P : Program} {w : World} {K : PySem.W.Frag} {mg : Str → Option Value} {base : Heap} {C : Addr}
def sp_due : Sp := fun vs H Q _ => ∃ (a : Addr) (ds : List Tt) (most : Nat), vs = [.ref a, .int most] ∧ H a = some (.lst (ds.map fun d => .ref d.1)) ∧ ds ≠ [] ∧ ds.length ≤ 4 ∧ (∀ d ∈ ds, Dd H d) ∧ most ≤ 20 ∧
  ∀ D H' zs, Same H H' → H D = none → H' D = some (.lst (zs.map fun z => .str (S z))) → Told zs (fun z => ∀ d ∈ ds, WL d.2.1 d.2.2 most z) → Q (.ref D) H'
theorem c_law_due (T : Txt K mg C) : C8.Cal P w K mg base 4 "_law_due" sp_due [] := by
  refine calF T.d_law_due sc_law_due (fun vs H Q E h => ?_) (fun f0 cdv A outer s H vs Q E hr h => ?_)
  · obtain ⟨_, _, _, rfl, _⟩ := h; rfl
  · obtain ⟨a, ds, most, rfl, ha, dne, d4, dd, hm, q⟩ := h
    refine ⟨_, (pss_cons (ps_setLc (i := 2) (own := [("_law_many", 3), ("_law_pieces", 4)]) rfl sc_law_due.nd rfl rfl (sw_true rfl rfl rfl (by decide +kernel)) (pi_list (pv 0)) (blkOk_by (N := ["_law_told", "_law_most", "_law_tables", "_law_many", "_law_pieces", "_law_found", "_law_word_here", "_law_table"]) (sc := C8.fnScope (topS 75)) (own := [("_law_many", 3), ("_law_pieces", 4)]) (by decide +kernel)) (fun _ _ _ _ _ => (pg_two (K := K) (i := 3) (j := 4) rfl rfl sc_law_due.nd rfl rfl (Or.inl rfl) (Or.inl rfl))) (fun _ _ _ _ _ => pts_nil) (fun _ _ _ _ _ => (C8.pe_c (c_law_words T) hr (by decide) (by rfl) (pa_cons (pv 3) (pa_cons (pv 4) (pa_cons (pv 1) pa_nil))))))
    (pss_cons (ps_set (i := 5) sc_law_due.nd rfl (Or.inl rfl) (pe_lst pa_nil))
    (pss_cons (ps_lock (ps_for PassesOwn.never rfl (pi_keys (pe_ix ix_list (pv 2) pe_int (fun _ _ => rfl))) (pg_name (i := 6) sc_law_due.nd rfl (Or.inr rfl))
    (pss_one (ps_if (pt_cmpR (op_eqNil (Nat.lt_of_succ_lt (room1 hr))) (pe_lc (own := [("_law_table", 7)]) (by rfl) sc_law_due.nd (pi_list (pv 2)) (blkOk_by (N := ["_law_told", "_law_most", "_law_tables", "_law_many", "_law_pieces", "_law_found", "_law_word_here", "_law_table"]) (sc := C8.fnScope (topS 75)) (own := [("_law_table", 7)]) (by decide +kernel)) (fun _ _ _ _ _ => (pg_name (i := 7) sc_law_due.nd rfl (Or.inl rfl))) (fun _ _ _ _ _ => (pts_one (pt_cmp (pc_dnotin (room1 hr) (pv 6) (pv 7))))) (fun _ _ _ _ _ => (pv 7))) (pe_lst pa_nil) (nomark _))
    (pss_one (ps_expr (pe_bm PySem.F.plainAttrs_list PySem.F.slot_list_append PySem.F.type_list_append mt_append (pv 5) (pa_cons (pe_tup (pa_cons (pe_callB call_len_str (by rfl) T.m_len (by decide +kernel) (pa_cons (pv 6) pa_nil)) (pa_cons (pv 6) pa_nil))) pa_nil))))
    pss_nil))))
    (pss_one (ps_ret (pe_lc (own := [("_law_many", 3), ("_law_word_here", 6)]) (by rfl) sc_law_due.nd (pi_list (pe_callB (cr_sortedA hr.units) (by rfl) T.m_sorted (by decide +kernel) (pa_cons (pv 5) pa_nil))) (blkOk_by (N := ["_law_told", "_law_most", "_law_tables", "_law_many", "_law_pieces", "_law_found", "_law_word_here", "_law_table"]) (sc := C8.fnScope (topS 75)) (own := [("_law_many", 3), ("_law_word_here", 6)]) (by decide +kernel)) (fun _ _ _ _ _ => (pg_two (K := K) (i := 3) (j := 6) rfl rfl sc_law_due.nd rfl rfl (Or.inl rfl) (Or.inl rfl))) (fun _ _ _ _ _ => pts_nil) (fun _ _ _ _ _ => (pv 6)))))))), ?_⟩
    refine ⟨_, rfl, a, rfl, ⟨_, .inl (.inl ha)⟩, fun Dt hDt => ?_⟩
    refine lc_list (K := K) (a := a) (xs := ds.map fun d => V.ref d.1) (fun i HB => Same H HB ∧ ∃ ws, HB Dt = some (.lst ws) ∧ Tb most HB ws (ds.take i) ∧ ∀ D, V.ref D ∈ ws → ∃ kvs, HB D = some (.dK kvs)) ⟨sameNew hDt, [], upd_same, .nil, fun D h => by cases h⟩ (fun i HB _ p => .inl (.inl (p.1 _ _ ha))) (fun i v HB hi p => ?_) fun HB p => ?_
    · obtain ⟨sB, ws, hws, tb, plain⟩ := p
      rw [List.getElem?_map] at hi
      obtain ⟨d, hd, rfl⟩ : ∃ d, ds[i]? = some d ∧ v = .ref d.1 := by
        cases e : ds[i]? with
        | none => rw [e] at hi; cases hi
        | some t => rw [e] at hi; exact ⟨t, rfl, (Option.some.inj hi).symm⟩
      obtain ⟨l, h1, h2, h3, h4, h5⟩ := (dd d (List.mem_of_getElem? hd)).same sB
      have il : i < ds.length := (List.getElem?_eq_some_iff.mp hd).1
      have lw := tb.len
      rw [List.length_take] at lw
      refine ⟨d.1, _, rfl, .inl (.inl h1), rfl, _, _, rfl, _, _, rfl, rfl, rfl, yes_if ?_⟩
      refine ⟨_, rfl, _, rfl, _, rfl, l, d.2.1, d.2.2, most, rfl, h2, h3, h4, h5, hm, fun D H3 ks s3 nD kd lk mem => ?_⟩
      obtain ⟨kvs, hD, kk⟩ := kd
      have eT : ds.take (i + 1) = ds.take i ++ [d] := by
        rw [List.take_succ, hd]
        rfl
      rw [eT]
      have hws3 := s3 _ _ hws
      refine ⟨ws, hws3, by rw [sizeLine_eq]; omega, same_upd2 hDt (sB.trans s3), _, upd_same, ((tb.mono (rd_same s3)).mono (rd_lst hws3)).snoc (.cons (rd_lst hws3 _ _ (.inl hD)) kk lk mem .nil), fun D' h' => ?_⟩
      have pl' : ∃ kvs, H3 D' = some (.dK kvs) := by
        rcases List.mem_append.mp h' with z | z
        · obtain ⟨kv, e⟩ := plain D' z
          exact ⟨kv, s3 _ _ e⟩
        · have := List.mem_singleton.mp z
          cases this
          exact ⟨kvs, hD⟩
      obtain ⟨kv, e⟩ := pl'
      exact ⟨kv, by rw [upd_ne (fun x => by rw [x, hws3] at e; cases e)]; exact e⟩
    obtain ⟨sB, ws, hws, tb, plain⟩ := p
    rw [List.length_map, List.take_length] at tb
    refine ⟨by show 0 ≤ sizeLine; decide, fun F nF => ?_⟩
    have sF := sameNew (o := .lst []) nF
    have hF := upd_same (H := HB) (a := F) (o := .lst [])
    have FDt : F ≠ Dt := fun e => by rw [e, hws] at nF; cases nF
    have hws1 := sF _ _ hws
    have tb1 := tb.mono (rd_same sF)
    have nF0 := sB.free nF
    have s1 := sB.trans sF
    generalize upd HB F (.lst []) = H1 at sF hF hws1 tb1 s1
    obtain ⟨d0, dr', rfl⟩ : ∃ d r, ds = d :: r := by
      cases ds with
      | nil => exact absurd rfl dne
      | cons t r => exact ⟨t, r, rfl⟩
    obtain ⟨D0, kvs0, ks0, ws', rd0, k0, l0, m0, hcons⟩ : ∃ D0 kvs0 ks0 ws', Rd H1 D0 (.dK kvs0) ∧ Ks kvs0 ks0 ∧ ks0.length ≤ 10000 ∧ (∀ z, z ∈ ks0 ↔ WL d0.2.1 d0.2.2 most z) ∧ ws = V.ref D0 :: ws' := by
      cases tb1 with
      | cons a b c d _ => exact ⟨_, _, _, _, a, b, c, d, rfl⟩
    have hD0 : H1 D0 = some (.dK kvs0) := by
      obtain ⟨kv, e⟩ := plain D0 (by rw [hcons]; exact List.mem_cons_self)
      have e := sF _ _ e
      rcases rd0 with h | ⟨o, h⟩
      · exact h
      · rw [e] at h
        cases h
    have FD : F ≠ D0 := fun e => by rw [e, hD0] at hF; cases hF
    have DtD : Dt ≠ D0 := fun e => by rw [e, hD0] at hws1; cases hws1
    have lk0 := k0.len
    have lws := tb1.len
    refine ⟨D0, .dK kvs0, hD0, trivial, fun od => ?_⟩
    have hfz := upd_same (H := H1) (a := D0) (o := .frz od (.dK kvs0))
    have hF2 : upd H1 D0 (.frz od (.dK kvs0)) F = some (.lst []) := by rw [upd_ne FD]; exact hF
    have hDt2 : upd H1 D0 (.frz od (.dK kvs0)) Dt = some (.lst ws) := by rw [upd_ne DtD]; exact hws1
    have tb2 := tb1.mono (rd_lock (od := od) hD0)
    have s12 : ∀ b o, b ≠ D0 → H1 b = some o → upd H1 D0 (.frz od (.dK kvs0)) b = some o := fun b o ne e => by rw [upd_ne ne]; exact e
    generalize upd H1 D0 (.frz od (.dK kvs0)) = H2 at hfz hF2 hDt2 tb2 s12
    have rdX : ∀ {HH : Hp}, SameX F H2 HH → ∀ D kvs, Rd H2 D (.dK kvs) → Rd HH D (.dK kvs) := fun {HH} sx D kvs h => by
      have ne : D ≠ F := fun e => by
        rcases h with h | ⟨o, h⟩ <;> (rw [e, hF2] at h; cases h)
      rcases h with h | ⟨o, h⟩
      · exact .inl (sx _ _ ne h)
      · exact .inr ⟨o, sx _ _ ne h⟩
    refine ⟨_, rfl, Dt, _, 0, _, rfl, rfl, .inl (.inl hDt2), atI_nat (j := 0) (by rw [hcons]; rfl), D0, od, rfl, .inl ⟨kvs0, hfz, ?_⟩⟩
    refine for_it walk_keys (fun i σ HH => SameX F H2 HH ∧ ∃ (y6 : Option V) (fs : List V) (zs : List (List Nat)), σ = [some (.ref a), some (.int most), some (.ref Dt), none, none, some (.ref F), y6, none] ∧ HH F = some (.lst fs) ∧ Fnd HH fs zs ∧ zs.Nodup ∧ zs.length ≤ i ∧ ∀ z, z ∈ zs ↔ z ∈ ks0.take i ∧ ∀ d ∈ d0 :: dr', WL d.2.1 d.2.2 most z)
      ⟨.refl _ _, none, [], [], rfl, hF2, .nil, List.nodup_nil, Nat.le_refl _, fun z => by simp⟩ (fun i σ HH _ p => p.1 _ _ (Ne.symm FD) hfz) (fun i x σ HH HH' hi pI yy => ?_) fun σ HH pI => ?_
    · obtain ⟨sx, y6, fs, zs, rfl, hFF, fnd, nd, lz, mem⟩ := pI
      obtain ⟨rfl, k, v, hk, rfl⟩ := yy
      obtain ⟨z, hz, rfl⟩ : ∃ z, ks0[i]? = some z ∧ k = Sum.inr (S z) := by
        have e := congrArg (fun l => l[i]?) k0.1
        simp only [List.getElem?_map, hk] at e
        cases e2 : ks0[i]? with
        | none => rw [e2] at e; cases e
        | some z => rw [e2] at e; exact ⟨z, rfl, Option.some.inj e⟩
      have hDtH := sx _ _ (fun e => FDt e.symm) hDt2
      have tbH := tb2.mono (rdX sx)
      obtain ⟨b, hb⟩ : ∃ b : Bool, b = true ↔ ∀ d ∈ d0 :: dr', WL d.2.1 d.2.2 most z := by classical exact ⟨decide (∀ d ∈ d0 :: dr', WL d.2.1 d.2.2 most z), decide_eq_true_iff⟩
      dsimp only
      rw [gname_eq]
      try dsimp only
      refine if_end b (fun R q' => ?_) (fun bb H5 s5 => ?_) fun bb H5 s5 => ?_
      · refine ⟨_, rfl, Dt, rfl, ⟨_, .inl (.inl hDtH)⟩, fun Dx hDx => ?_⟩
        refine lc_list (K := K) (a := Dt) (xs := ws) (fun j HC => Same HH' HC ∧ ∃ xs : List V, HC Dx = some (.lst xs) ∧ xs.length ≤ j ∧ (xs = [] ↔ ∀ d ∈ (d0 :: dr').take j, WL d.2.1 d.2.2 most z)) ⟨sameNew hDx, [], upd_same, Nat.le_refl _, by simp⟩ (fun j HC _ p => .inl (.inl (p.1 _ _ hDtH))) (fun j v HC hj p => ?_) fun HC p => ?_
        · obtain ⟨sC, xs, hx, lxs, ex⟩ := p
          obtain ⟨D, kvs, ks, d, rfl, hd, rd, kk, km⟩ := (tbH.mono (rd_same sC)).get hj
          have jl : j < ws.length := (List.getElem?_eq_some_iff.mp hj).1
          have eT : (d0 :: dr').take (j + 1) = (d0 :: dr').take j ++ [d] := by
            rw [List.take_succ, hd]
            rfl
          refine ⟨rfl, _, rfl, _, rfl, D, _, rfl, .inl ⟨kvs, Sum.inr (S z), rd, rfl, rfl⟩, ?_⟩
          rw [kk.get]
          refine ⟨_, rfl, ?_⟩
          rw [eT]
          by_cases e : z ∈ ks
          · rw [decide_eq_true e]
            refine iteF ⟨sC, xs, hx, by omega, ?_⟩
            rw [ex]
            constructor
            · intro h y hy
              rcases List.mem_append.mp hy with u | u
              · exact h y u
              · rw [show y = d from List.mem_singleton.mp u]
                exact (km z).mp e
            · exact fun h y hy => h y (List.mem_append.mpr (.inl hy))
          · rw [decide_eq_false e]
            refine iteT ⟨_, rfl, xs, hx, by rw [sizeLine_eq]; rw [lws] at jl; omega, same_upd2 hDx sC, _, upd_same, by rw [List.length_append]; simp; omega, ?_⟩
            constructor
            · intro h
              simp at h
            · intro h
              exact absurd ((km z).mpr (h d (List.mem_append.mpr (.inr List.mem_cons_self)))) e
        · obtain ⟨sC, xs, hx, lxs, ex⟩ := p
          rw [lws, List.take_length] at ex
          refine ⟨by show 0 ≤ sizeLine; decide, fun l0 nl0 => ?_⟩
          have sl := sameNew (o := .lst []) nl0
          refine ⟨Dx, l0, xs, rfl, rfl, sl _ _ hx, upd_same, _, rfl, ?_⟩
          have eb : decide (xs = []) = b := by
            rw [Bool.eq_iff_iff, decide_eq_true_iff, ex, hb]
          rw [eb]
          exact q' _ (sC.trans sl)
      · have all := hb.mp bb
        have hF5 := s5 _ _ hFF
        have zl : z.length ≤ 20 := by
          obtain ⟨_, _, _, h⟩ := all d0 List.mem_cons_self
          omega
        have zk : z ∈ ks0 := List.mem_of_getElem? hz
        have i0 : i < ks0.length := (List.getElem?_eq_some_iff.mp hz).1
        have nz : z ∉ ks0.take i := fun h => by
          have nd0 := k0.2
          rw [← List.take_append_drop i ks0, List.nodup_append] at nd0
          exact nd0.2.2 z h z (List.mem_iff_getElem?.mpr ⟨0, by rw [List.getElem?_drop]; exact hz⟩) rfl
        refine ⟨_, rfl, .inl ⟨rfl, _, .inl (.inl hF5)⟩, _, rfl, S z, rfl, len_line (by omega), _, rfl, by show 2 ≤ sizeLine; decide, fun t nt => ?_⟩
        have st := sameNew (o := .tup [V.int ((S z).length : Nat), V.str (S z)]) nt
        have ht := upd_same (H := H5) (a := t) (o := .tup [V.int ((S z).length : Nat), V.str (S z)])
        have lf := fnd.len
        refine ⟨F, _, _, rfl, rfl, st _ _ hF5, by rw [sizeLine_eq]; omega, ?_⟩
        have hFt := st _ _ hF5
        refine ⟨(sx.trans (.of (s5.trans st))).trans sameX_upd, _, _, zs ++ [z], rfl, upd_same, ((fnd.mono (tup_same (s5.trans st))).mono (tup_upd hFt)).snoc (by rw [← S_len z]; exact tup_upd hFt _ _ ht), ?_, by rw [List.length_append]; simp; omega, fun y => ?_⟩
        · rw [List.nodup_append]
          refine ⟨nd, by simp, fun x hx y hy e => nz ?_⟩
          rw [List.mem_singleton.mp hy] at e
          exact e ▸ ((mem x).mp hx).1
        · rw [List.mem_append, List.mem_singleton, mem, List.take_succ, hz, List.mem_append]
          constructor
          · rintro (⟨h1, h2⟩ | rfl)
            · exact ⟨.inl h1, h2⟩
            · exact ⟨.inr List.mem_cons_self, all⟩
          · rintro ⟨h1 | h1, h2⟩
            · exact .inl ⟨h1, h2⟩
            · exact .inr (List.mem_singleton.mp h1)
      · have nall : ¬ ∀ d ∈ d0 :: dr', WL d.2.1 d.2.2 most z := fun h => by
          rw [hb.mpr h] at bb
          cases bb
        rw [tnext_eq]
        refine ⟨sx.trans (.of s5), _, fs, zs, rfl, s5 _ _ hFF, fnd.mono (tup_same s5), nd, by omega, fun y => ?_⟩
        rw [mem, List.take_succ, hz, List.mem_append]
        constructor
        · exact fun h => ⟨.inl h.1, h.2⟩
        · rintro ⟨h1 | h1, h2⟩
          · exact ⟨h1, h2⟩
          · rw [show y = z from List.mem_singleton.mp h1] at h2
            exact absurd h2 nall
    · obtain ⟨sx, y6, fs, zs, rfl, hFF, fnd, nd, lz, mem⟩ := pI
      rw [lk0] at lz mem
      rw [List.take_length] at mem
      have hfzH := sx _ _ (Ne.symm FD) hfz
      refine ⟨hfzH, ?_⟩
      have sU : Same H (upd HH D0 (.dK kvs0)) := fun b o e => by
        have e1 := s1 _ _ e
        by_cases z : b = D0
        · rw [z, hD0] at e1
          rw [z, upd_same]
          exact e1
        · rw [upd_ne z]
          exact sx _ _ (fun x => by rw [x, nF0] at e; cases e) (s12 _ _ z e1)
      have hFU : upd HH D0 (.dK kvs0) F = some (.lst fs) := by rw [upd_ne FD]; exact hFF
      have fndU : Fnd (upd HH D0 (.dK kvs0)) fs zs := fnd.mono fun a xs e => by
        rw [upd_ne (fun x => by rw [x, hfzH] at e; cases e)]
        exact e
      generalize upd HH D0 (.dK kvs0) = HU at sU hFU fndU
      obtain ⟨em, at_⟩ := fndU.map
      have lf := fndU.len
      dsimp only
      refine ⟨_, rfl, F, fs, fun v => dZ (gH HU v), rfl, .inl (.inl hFU), fun v hv => ?_, fun d hd d' hd' => ?_, .inl fun d hd => ?_, fun v hv => by show (dZ (gH HU v)).depth ≤ 60; unfold dZ; simp [PyData.depth, PyData.depthAll], fun p1 np1 => ?_⟩
      · obtain ⟨t, rfl, ht⟩ := at_ v hv
        exact .tup (.inl (.inl ht)) (.cons (.int _) (.cons (.str _) .nil))
      · obtain ⟨v, _, rfl⟩ := List.mem_map.mp hd
        obtain ⟨v', _, rfl⟩ := List.mem_map.mp hd'
        simp [dZ, PySem.W.alike, PySem.W.alikeAll]
      · obtain ⟨v, _, rfl⟩ := List.mem_map.mp hd
        exact ⟨_, _, rfl⟩
      · have em2 : (fs.mergeSort (PySem.W.dataLe false fun v => dZ (gH HU v))).map (gH HU) = zs.mergeSort (PySem.W.dataLe false dZ) := by
          rw [← em]
          exact PySem.W.sort_maps (gH HU) fun a _ b _ => rfl
        have at2 : ∀ v ∈ fs.mergeSort (PySem.W.dataLe false fun v => dZ (gH HU v)), ∃ t, v = .ref t ∧ HU t = some (.tup [.int ((gH HU v).length : Nat), .str (S (gH HU v))]) := fun v hv => at_ v ((List.mergeSort_perm _ _).mem_iff.mp hv)
        have sp1 := sameNew (o := .lst (fs.mergeSort (PySem.W.dataLe false fun v => dZ (gH HU v)))) np1
        have hp1 := upd_same (H := HU) (a := p1) (o := .lst (fs.mergeSort (PySem.W.dataLe false fun v => dZ (gH HU v))))
        have ls : (fs.mergeSort (PySem.W.dataLe false fun v => dZ (gH HU v))).length = fs.length := List.length_mergeSort _
        generalize fs.mergeSort (PySem.W.dataLe false fun v => dZ (gH HU v)) = srt at em2 at2 sp1 hp1 ls
        refine ⟨p1, rfl, ⟨_, .inl (.inl hp1)⟩, fun Dr' hDr => ?_⟩
        refine lc_list (K := K) (a := p1) (xs := srt) (fun j HC => Same (upd HU p1 (.lst srt)) HC ∧ HC Dr' = some (.lst (((srt.take j).map (gH HU)).map fun z => V.str (S z)))) ⟨sameNew hDr, upd_same⟩ (fun j HC _ p => .inl (.inl (p.1 _ _ hp1))) (fun j v HC hj p => ?_) fun HC p => ?_
        · obtain ⟨sC, hC⟩ := p
          obtain ⟨t, rfl, ht⟩ := at2 v (List.mem_of_getElem? hj)
          have jl : j < srt.length := (List.getElem?_eq_some_iff.mp hj).1
          refine ⟨t, _, rfl, .inl (.inl (sC _ _ (sp1 _ _ ht))), rfl, _, _, rfl, _, _, rfl, rfl, rfl, yes_if ⟨_, rfl, _, hC, ?_, same_upd2 hDr sC, ?_⟩⟩
          · rw [List.length_map, List.length_map, List.length_take, sizeLine_eq]
            omega
          · rw [upd_same, List.take_succ, hj, List.map_append, List.map_append]
            rfl
        · obtain ⟨sC, hC⟩ := p
          rw [List.take_length, em2] at hC
          have pm := List.mergeSort_perm zs (PySem.W.dataLe false dZ)
          refine q Dr' HC _ ((sU.trans sp1).trans sC) (sU.free (sp1.free hDr)) hC ⟨pm.nodup_iff.mpr nd, sort_dZ zs, fun z => ?_⟩
          rw [pm.mem_iff, mem]
          constructor
          · exact fun h => h.2
          · exact fun h => ⟨(m0 z).mpr (h d0 List.mem_cons_self), h⟩
end
end K41

set_option Elab.async false
set_option linter.all false
set_option maxRecDepth 100000
set_option maxHeartbeats 8000000
namespace K41
open PySem PySem.Spec PyProof.Rows L2 CK SX NM
/-! ### words as data, lists of pieces as data -/
def dSs (zs : List (List Nat)) : PyData := .list (zs.map fun z => PyData.str (S z))
theorem lay_Ss : ∀ zs : List (List Nat), (∀ z ∈ zs, Low z) → PyData.canLayAll0 (zs.map fun z => PyData.str (S z)) = true
  | [], _ => by simp [PyData.canLayAll0]
  | z :: r, h => by
    rw [List.map_cons, PyData.canLayAll0, lay_Ss r fun q hq => h q (List.mem_cons_of_mem _ hq)]
    simp [PyData.canLay0, str_low (h z List.mem_cons_self)]
theorem deep_Ss : ∀ zs : List (List Nat), PyData.depthAll (zs.map fun z => PyData.str (S z)) = 0
  | [] => by simp [PyData.depthAll]
  | z :: r => by
    rw [List.map_cons, PyData.depthAll, deep_Ss r]
    simp [PyData.depth]
theorem shaped_Ss {zs : List (List Nat)} (h : ∀ z ∈ zs, Low z) : SeqAt.shaped (dSs zs) = true := by
  unfold SeqAt.shaped dSs
  rw [PyData.canLay0, lay_Ss zs h, PyData.depth, deep_Ss]
  decide
theorem eqv_Ss {zs : List (List Nat)} (h : ∀ z ∈ zs, Low z) : PyData.eqv (dSs zs) (dSs zs) = true := SeqAt.eqv_refl _ (SeqAt.canLay_of_shaped (shaped_Ss h))
theorem dp_Ss {K : PySem.W.Frag} {H : Hp} {D : Addr} {zs : List (List Nat)} (h : H D = some (.lst (zs.map fun z => V.str (S z)))) : Dp K H (.ref D) (dSs zs) := by
  have key : ∀ zs : List (List Nat), DpAll K H (zs.map fun z => V.str (S z)) (zs.map fun z => PyData.str (S z)) := fun zs => by
    induction zs with
    | nil => exact .nil
    | cons z r ih => exact .cons (.str _) ih
  exact .lst (.inl (.inl h)) (key zs)
def dPl (ps : List Pn) : PyData := .list (ps.map dP)
theorem lay_dPl : ∀ l : List (List Pn), (∀ ps ∈ l, ∀ p ∈ ps, Low p.1) → PyData.canLayAll0 (l.map dPl) = true
  | [], _ => by simp [PyData.canLayAll0]
  | ps :: r, h => by
    rw [List.map_cons, PyData.canLayAll0, lay_dPl r fun q hq => h q (List.mem_cons_of_mem _ hq)]
    unfold dPl
    rw [PyData.canLay0, lay_dPs ps (h ps List.mem_cons_self)]
    rfl
theorem deep_dPl : ∀ l : List (List Pn), PyData.depthAll (l.map dPl) ≤ 3
  | [] => by simp [PyData.depthAll]
  | ps :: r => by
    have a := deep_dPl r
    have b := deep_dPs ps
    have e : (dPl ps).depth = PyData.depthAll (ps.map dP) + 1 := by unfold dPl; rw [PyData.depth]
    rw [List.map_cons, PyData.depthAll, e]
    omega
theorem shaped_dPl {l : List (List Pn)} (h : ∀ ps ∈ l, ∀ p ∈ ps, Low p.1) : SeqAt.shaped (.list (l.map dPl)) = true := by
  unfold SeqAt.shaped
  rw [PyData.canLay0, lay_dPl l h, PyData.depth]
  have := deep_dPl l
  rw [decide_eq_true (by omega)]
  rfl
theorem eqv_dPl {l : List (List Pn)} (h : ∀ ps ∈ l, ∀ p ∈ ps, Low p.1) : PyData.eqv (.list (l.map dPl)) (.list (l.map dPl)) = true := SeqAt.eqv_refl _ (SeqAt.canLay_of_shaped (shaped_dPl h))
/-! ### the two are equal by their own == -/
def RT (C : Addr) : Addr → Addr → Hp → Prop := fun a b H => ∃ m ps, OT C H a m ps ∧ OT C H b m ps
theorem rt_mono {C : Addr} : ∀ a b H H', Ext H H' → RT C a b H → RT C a b H' := fun a b H H' e ⟨m, ps, h, g⟩ => ⟨m, ps, h.same e, g.same e⟩
theorem rt_sp {C : Addr} : ∀ vs H Q E, spEq (RT C) vs H Q E → sp_eq C vs H Q E := fun vs H Q E ⟨a, b, hv, ⟨m, ps, h, g⟩, q⟩ => ⟨a, b, m, m, ps, ps, hv, h, g, by rw [decide_eq_true rfl, decide_eq_true rfl]; exact q H (fun _ _ e => e)⟩
theorem OT.at' {C x : Addr} {H : Hp} {m : Nat} {ps : List Pn} (h : OT C H x m ps) : ∃ dx fs, H x = some (.ins C dx fs) := by
  obtain ⟨l, ⟨dx, e⟩, _⟩ := h
  exact ⟨dx, _, e⟩
/-! ### what is told is what is due -/
theorem dot_ge : ∀ (fs pt : List Nat), (∀ n ∈ fs, 1 ≤ n) → fs.length = pt.length → pt.sum ≤ dot fs pt
  | [], [], _, _ => Nat.le_refl _
  | [], _ :: _, _, h => by simp at h
  | _ :: _, [], _, h => by simp at h
  | a :: fs, b :: pt, h1, h2 => by
    have ih := dot_ge fs pt (fun n hn => h1 n (List.mem_cons_of_mem _ hn)) (by simpa using h2)
    have : b ≤ a * b := Nat.le_mul_of_pos_left _ (h1 a List.mem_cons_self)
    rw [List.sum_cons, dot]
    omega
theorem box_in {N : Nat} : ∀ {m : Nat} {pt : List Nat}, pt.length = m → (∀ x ∈ pt, x ≤ N) → pt ∈ box m N
  | 0, pt, h, _ => by
    rw [List.length_eq_zero_iff.mp h]
    exact List.mem_cons_self
  | m + 1, pt, h, hx => by
    have ne : pt ≠ [] := fun e => by rw [e] at h; simp at h
    have e := List.dropLast_concat_getLast ne
    have hl := hx _ (List.getLast_mem ne)
    refine List.mem_flatMap.mpr ⟨pt.dropLast, box_in (by simp [h]) fun x hx' => hx x ((List.dropLast_sublist pt).subset hx'), List.mem_map.mpr ⟨pt.getLast ne, List.mem_range.mpr (by omega), e⟩⟩
/-- what holds of a text, its list and the law's own record -/
abbrev E4 := Addr × Addr × Nat × List Pn
structure El (C : Addr) (H : Hp) (e : E4) : Prop where
  ot : OT C H e.1 e.2.2.1 (normL e.2.2.2)
  dd : Dd H (e.2.1, e.2.2.1, e.2.2.2)
  std : Std e.2.2.1 e.2.2.1 e.2.2.2
theorem El.same {C : Addr} {H H' : Hp} {e : E4} (h : El C H e) (s : Same H H') : El C H' e := ⟨h.ot.same s, h.dd.same s, h.std⟩
theorem El.drF {C : Addr} {H : Hp} {e : E4} (h : El C H e) : Dr e.2.2.1 e.2.2.2 ∧ e.2.2.2.length ≤ 5 ∧ e.2.2.1 ≤ 3 := by
  obtain ⟨l, _, _, h3⟩ := h.dd
  exact h3
theorem El.tx {C : Addr} {H : Hp} {e : E4} (h : El C H e) : Tx C H e.1 e.2.2.1 (normL e.2.2.2) := by
  obtain ⟨dr, few, m3⟩ := h.drF
  have lF : LenF e.2.2.1 e.2.2.2 := fun p hp => (dr p hp).1
  refine ⟨h.ot, m3, nm_normL lF, fun i hi => ?_, ?_⟩
  · obtain ⟨p, hp, ne, ep⟩ := h.std i hi
    exact ukn_norm lF hi hp ne (by rw [ep, get_eP hi]; decide)
  · rw [wr_normL lF]
    exact Nat.lt_of_le_of_lt (dr.ones few m3) (by decide)
theorem El.ws {C : Addr} {H : Hp} {e : E4} (h : El C H e) (most : Nat) (z : List Nat) : WS e.2.2.1 (normL e.2.2.2) most z ↔ WL e.2.2.1 e.2.2.2 most z := by
  obtain ⟨dr, few, m3⟩ := h.drF
  have lF : LenF e.2.2.1 e.2.2.2 := fun p hp => (dr p hp).1
  obtain ⟨c, fs, ef, lfs, bfs, val⟩ := h.tx.form
  constructor
  · rintro ⟨pt, hp, h1, h2⟩
    have lp := box_len hp
    have g := dot_ge fs pt (fun n hn => (bfs n hn).1) (by rw [lfs, lp])
    have v := val pt
    rw [h1] at v
    exact ⟨pt, lbox_mem.mpr ⟨lp, by omega⟩, by rw [← wr_normL lF]; exact h1, h2⟩
  · rintro ⟨pt, hp, h1, h2⟩
    obtain ⟨lp, sp⟩ := lbox_mem.mp hp
    exact ⟨pt, box_in lp fun x hx => Nat.le_trans (le_sum_mem hx) sp, by rw [wr_normL lF]; exact h1, h2⟩
theorem El.low {C : Addr} {H : Hp} {e : E4} (h : El C H e) {most : Nat} {z : List Nat} (hz : WL e.2.2.1 e.2.2.2 most z) : Low z := by
  obtain ⟨pt, _, h1, _⟩ := hz
  rw [← h1]
  exact low_wr fun p hp => (h.drF.1 p hp).2.2.1
def tsE (es : List E4) : List Tt := es.map fun e => (e.1, e.2.2.1, normL e.2.2.2)
def dsE (es : List E4) : List Tt := es.map fun e => (e.2.1, e.2.2.1, e.2.2.2)
def Es (C : Addr) (H : Hp) (es : List E4) : Prop := ∀ e ∈ es, El C H e
theorem Es.same {C : Addr} {H H' : Hp} {es : List E4} (h : Es C H es) (s : Same H H') : Es C H' es := fun e he => (h e he).same s
theorem Es.ts {C : Addr} {H : Hp} {es : List E4} (h : Es C H es) : Ts C H (tsE es) := fun t ht => by
  obtain ⟨e, he, rfl⟩ := List.mem_map.mp ht
  exact (h e he).tx
theorem Es.ds {C : Addr} {H : Hp} {es : List E4} (h : Es C H es) : ∀ d ∈ dsE es, Dd H d := fun d hd => by
  obtain ⟨e, he, rfl⟩ := List.mem_map.mp hd
  exact (h e he).dd
/-- the words in question -/
def All (es : List E4) (most : Nat) (z : List Nat) : Prop := ∀ e ∈ es, WL e.2.2.1 e.2.2.2 most z
theorem told_ts {C : Addr} {H : Hp} {es : List E4} {most : Nat} {zs : List (List Nat)} (h : Es C H es) (t : Told zs fun z => ∀ t ∈ tsE es, WS t.2.1 t.2.2 most z) : Told zs (All es most) := ⟨t.1, t.2.1, fun z => (t.2.2 z).trans ⟨fun g e he => ((h e he).ws most z).mp (g _ (List.mem_map.mpr ⟨e, he, rfl⟩)), fun g t ht => by
  obtain ⟨e, he, rfl⟩ := List.mem_map.mp ht
  exact ((h e he).ws most z).mpr (g e he)⟩⟩
theorem told_ds {es : List E4} {most : Nat} {zs : List (List Nat)} (t : Told zs fun z => ∀ d ∈ dsE es, WL d.2.1 d.2.2 most z) : Told zs (All es most) := ⟨t.1, t.2.1, fun z => (t.2.2 z).trans ⟨fun g e he => g _ (List.mem_map.mpr ⟨e, he, rfl⟩), fun g t ht => by
  obtain ⟨e, he, rfl⟩ := List.mem_map.mp ht
  exact g e he⟩⟩
theorem told_low {C : Addr} {H : Hp} {es : List E4} {most : Nat} {zs : List (List Nat)} (h : Es C H es) (ne : es ≠ []) (t : Told zs (All es most)) : ∀ z ∈ zs, Low z := fun z hz => by
  obtain ⟨e, he⟩ := List.exists_mem_of_ne_nil es ne
  exact (h e he).low ((t.2.2 z).mp hz e he)
theorem told_same {es es' : List E4} {most : Nat} {zs : List (List Nat)} (t : Told zs (All es most)) (h : ∀ e, e ∈ es ↔ e ∈ es') : Told zs (All es' most) := ⟨t.1, t.2.1, fun z => (t.2.2 z).trans ⟨fun g e he => g e ((h e).mpr he), fun g e he => g e ((h e).mp he)⟩⟩
end K41

set_option linter.all false
namespace CK
open PySem PySem.Spec PyProof.Rows L2
/-- != of data within a comprehension -/
theorem op_neDK {X : Cx} {K : PySem.W.Frag} (hK : X.K = K) (hu : X.A.units + 64 < cLine) : OpR X (compareOp .NotEq) (rNeD K) := by
  subst hK
  exact op_neD hu
end CK

set_option Elab.async false
set_option linter.all false
set_option maxRecDepth 100000
set_option maxHeartbeats 8000000
namespace K41
open PySem PySem.Spec PyProof.Rows L2 CK SX NM
/-- the law's record of a text, while the generator runs and the list of records grows -/
def Dx (g TL : Addr) (H : Hp) (d : Tt) : Prop := ∃ l, H d.1 = some (.tup [.int (d.2.1 : Nat), .ref l]) ∧ PL H l d.2.2 ∧ l ≠ g ∧ l ≠ TL ∧ Dr d.2.1 d.2.2 ∧ d.2.2.length ≤ 5 ∧ d.2.1 ≤ 3 ∧ Std d.2.1 d.2.1 d.2.2
theorem Dx.go {g TL : Addr} {H H' : Hp} {d : Tt} {n : Nat} (h : Dx g TL H d) (G : Gn n H g) (s : SameX g H H') : Dx g TL H' d := by
  obtain ⟨l, h1, ⟨us, h2, h3⟩, h4, h5⟩ := h
  exact ⟨l, s.tup G h1, ⟨us, s _ _ h4 h2, h3.mono fun a xs e => s.tup G e⟩, h4, h5⟩
theorem Dx.upd {g TL : Addr} {H : Hp} {xs ys : List V} {d : Tt} (h : Dx g TL H d) (e : H TL = some (.lst xs)) : Dx g TL (L2.upd H TL (.lst ys)) d := by
  obtain ⟨l, h1, ⟨us, h2, h3⟩, h4, h5, h6⟩ := h
  exact ⟨l, tup_upd e _ _ h1, ⟨us, by rw [upd_ne h5]; exact h2, h3.mono (tup_upd e)⟩, h4, h5, h6⟩
theorem OTl.updL {C : Addr} {H : Hp} {x l X0 : Addr} {m : Nat} {ps : List Pn} {xs ys : List V} (h : OTl C H x l m ps) (e : H X0 = some (.lst xs)) (ne : l ≠ X0) : OTl C (L2.upd H X0 (.lst ys)) x l m ps := by
  obtain ⟨⟨dx, a⟩, gl⟩ := h
  obtain ⟨us, hus, pus⟩ := gl.at_
  exact ⟨⟨dx, by rw [upd_ne (fun z => by rw [z, e] at a; cases a)]; exact a⟩, ⟨⟨us, by rw [upd_ne ne]; exact hus, pus.mono (tup_upd e)⟩, gl.len, gl.ws, gl.low, gl.bf, gl.few⟩⟩
/-- the texts, the law's records of them, and the lists that hold them -/
structure Fa (C : Addr) (H : Hp) (TL X0 : Addr) (es : List E4) : Prop where
  told : H TL = some (.lst (es.map fun e => .ref e.2.1))
  text : H X0 = some (.lst (es.map fun e => .ref e.1))
  all : Es C H es
  ne : es ≠ []
  few : es.length ≤ 4
theorem Fa.same {C TL X0 : Addr} {H H' : Hp} {es : List E4} (h : Fa C H TL X0 es) (s : Same H H') : Fa C H' TL X0 es := ⟨s _ _ h.told, s _ _ h.text, h.all.same s, h.ne, h.few⟩
/-- lists of lists of pieces -/
inductive Ps (H : Hp) : List V → List (List Pn) → Prop
  | nil : Ps H [] []
  | cons {L : Addr} {ps : List Pn} {vs : List V} {l : List (List Pn)} : PL H L ps → Ps H vs l → Ps H (.ref L :: vs) (ps :: l)
theorem Ps.same {H H' : Hp} {vs : List V} {l : List (List Pn)} (h : Ps H vs l) (s : Same H H') : Ps H' vs l := by
  induction h with
  | nil => exact .nil
  | cons a _ ih => exact .cons (a.same s) ih
theorem Ps.len {H : Hp} {vs : List V} {l : List (List Pn)} (h : Ps H vs l) : vs.length = l.length := by
  induction h with
  | nil => rfl
  | cons _ _ ih => simp [ih]
theorem Ps.updL {H : Hp} {Y : Addr} {xs ys vs : List V} {l : List (List Pn)} (h : Ps H vs l) (e : H Y = some (.lst xs)) : (∀ L, V.ref L ∈ vs → L ≠ Y) → Ps (L2.upd H Y (.lst ys)) vs l := by
  induction h with
  | nil => intro _; exact .nil
  | cons a _ ih =>
    intro ne
    obtain ⟨us, hus, pus⟩ := a
    exact .cons ⟨us, by rw [upd_ne (ne _ List.mem_cons_self)]; exact hus, pus.mono (tup_upd e)⟩ (ih fun L hL => ne L (List.mem_cons_of_mem _ hL))
theorem Ps.snoc {H : Hp} {vs : List V} {l : List (List Pn)} {L : Addr} {ps : List Pn} (h : Ps H vs l) (a : PL H L ps) : Ps H (vs ++ [.ref L]) (l ++ [ps]) := by
  induction h with
  | nil => exact .cons a .nil
  | cons b _ ih => exact .cons b ih
theorem Ps.dp {K : PySem.W.Frag} {H : Hp} {vs : List V} {l : List (List Pn)} (h : Ps H vs l) : DpAll K H vs (l.map dPl) := by
  induction h with
  | nil => exact .nil
  | cons a _ ih => exact .cons (dp_PL a) ih
theorem ts_map (es : List E4) : ((tsE es).map fun t => V.ref t.1) = es.map fun e => .ref e.1 := by
  unfold tsE
  rw [List.map_map]
  rfl
theorem ds_map (es : List E4) : ((dsE es).map fun t => V.ref t.1) = es.map fun e => .ref e.2.1 := by
  unfold dsE
  rw [List.map_map]
  rfl
theorem ts_ne {es : List E4} (h : es ≠ []) : tsE es ≠ [] := fun e => h (List.map_eq_nil_iff.mp e)
theorem ds_ne {es : List E4} (h : es ≠ []) : dsE es ≠ [] := fun e => h (List.map_eq_nil_iff.mp e)
section
variable {P : Program} {w : World} {K : PySem.W.Frag} {mg : Str → Option Value} {base : Heap} {C : Addr}
def sp_law_right : Sp := fun vs H Q _ => ∃ g : Addr, vs = [.ref g] ∧ Gn 10000 H g ∧ ∀ H', SameX g H H' → Q (.bl true) H'
theorem c_law_right (T : Txt K mg C) : C8.Cal P w K mg base 12 "_law_right" sp_law_right [] := by
  refine calF T.d_law_right sc_law_right (fun vs H Q E h => ?_) (fun f0 cdv A outer s H vs Q E hr h => ?_)
  · obtain ⟨_, rfl, _⟩ := h; rfl
  · obtain ⟨g, rfl, G, q⟩ := h
    refine ⟨_, (pss_cons (ps_set (i := 1) sc_law_right.nd rfl (Or.inl rfl) (C8.pe_c (c_law_letters T) hr (by decide) (by rfl) (pa_cons (pv 0) pa_nil)))
    (pss_cons (ps_asg (pe_tup (pa_cons (C8.pe_c (c_law_word T) hr (by decide) (by rfl) (pa_cons (pv 0) (pa_cons (pv 1) (pa_cons pe_int (pa_cons pe_int pa_nil))))) (pa_cons (C8.pe_c (c_law_random T) hr (by decide) (by rfl) (pa_cons (pv 0) (pa_cons pe_int pa_nil))) (pa_cons (pe_lst pa_nil) pa_nil)))) (pg_tup rfl (pgs_cons (pg_name (i := 2) sc_law_right.nd rfl (Or.inl rfl)) (pgs_cons (pg_name (i := 3) sc_law_right.nd rfl (Or.inr rfl)) (pgs_cons (pg_name (i := 4) sc_law_right.nd rfl (Or.inr rfl)) pgs_nil)))))
    (pss_cons (ps_for PassesOwn.never rfl (pi_range1 (by rfl) T.m_range (pa_cons (pe_op op_add pe_int (C8.pe_c (c_law_random T) hr (by decide) (by rfl) (pa_cons (pv 0) (pa_cons pe_int pa_nil)))) pa_nil)) (pg_name (i := 5) sc_law_right.nd rfl (Or.inl rfl))
    (pss_cons (ps_set (i := 6) sc_law_right.nd rfl (Or.inl rfl) (pe_ix ix_list (pe_lst (pa_cons pe_int (pa_cons pe_int (pa_cons pe_int (pa_cons pe_int (pa_cons pe_int (pa_cons pe_int pa_nil))))))) (C8.pe_c (c_law_random T) hr (by decide) (by rfl) (pa_cons (pv 0) (pa_cons pe_int pa_nil))) (fun _ _ => rfl)))
    (pss_one (ps_expr (pe_bm PySem.F.plainAttrs_list PySem.F.slot_list_append PySem.F.type_list_append mt_append (pv 4) (pa_cons (pe_tup (pa_cons (pv 6) (pa_cons (C8.pe_c (c_law_standing T) hr (by decide) (by rfl) (pa_cons (pv 0) (pa_cons (pv 6) (pa_cons (pv 1) (pa_cons (pv 2) pa_nil))))) pa_nil))) pa_nil))))))
    (pss_cons (ps_set (i := 7) sc_law_right.nd rfl (Or.inr rfl) (pe_lc (own := [("_law_many", 6), ("_law_pieces", 8)]) (by rfl) sc_law_right.nd (pi_list (pv 4)) (blkOk_by (N := ["_law_generator_here", "_law_letters_here", "_law_core", "_law_most", "_law_told", "_law_turn", "_law_many", "_law_texts", "_law_pieces", "_law_given", "_law_due_here", "_law_found", "_law_at", "_law_fresh", "_law_text"]) (sc := C8.fnScope (topS 76)) (own := [("_law_many", 6), ("_law_pieces", 8)]) (by decide +kernel)) (fun _ _ _ _ _ => (pg_two (K := K) (i := 6) (j := 8) rfl rfl sc_law_right.nd rfl rfl (Or.inl rfl) (Or.inl rfl))) (fun _ _ _ _ _ => pts_nil) (fun _ _ _ _ _ => (C8.pe_mk (n_OpenText T) hr (by decide) (by rfl) (pa_cons (pv 6) (pa_cons (pv 8) pa_nil))))))
    (pss_cons (ps_par (i := 9) (j := 10) (by rfl) sc_law_right.nd rfl rfl (by decide) rfl rfl (pa_cons (pe_callTy call_list_of (by rfl) T.m_list (by decide +kernel) (pa_cons (pv 7) pa_nil)) (pa_cons (C8.pe_c (c_law_due T) hr (by decide) (by rfl) (pa_cons (pv 4) (pa_cons (pv 3) pa_nil))) pa_nil)) (by rfl))
    (pss_cons (ps_if (PW.pt (pw_or (pt_cmpR (op_neD hr.units) (C8.pe_c (c_shared_words T) hr (by decide) (by rfl) (pa_cons (pv 9) (pa_cons (pv 3) pa_nil))) (pv 10) (nomark _)) (pw_or1 (pt_cmpR (op_neRefs (Nat.lt_of_succ_lt (room1 hr))) (pv 9) (pv 7) (nomark _)))))
    (pss_one (ps_ret pe_bl))
    pss_nil)
    (pss_cons (ps_if (pt_cmpR (op_neD hr.units) (C8.pe_c (c_shared_words T) hr (by decide) (by rfl) (pa_cons (pv 7) (pa_cons (pe_op op_add (pv 3) pe_int) pa_nil))) (C8.pe_c (c_law_due T) hr (by decide) (by rfl) (pa_cons (pv 4) (pa_cons (pe_op op_add (pv 3) pe_int) pa_nil))) (nomark _))
    (pss_one (ps_ret pe_bl))
    pss_nil)
    (pss_cons (ps_set (i := 11) sc_law_right.nd rfl (Or.inl rfl) (C8.pe_c (c_shared_words T) hr (by decide) (by rfl) (pa_cons (pe_revL (pv 7)) (pa_cons (pv 3) pa_nil))))
    (pss_cons (ps_if (pt_cmpR (op_neD hr.units) (pv 11) (pv 10) (nomark _))
    (pss_one (ps_ret pe_bl))
    pss_nil)
    (pss_cons (ps_expr (pe_bm PySem.F.plainAttrs_list PySem.F.slot_list_append PySem.F.type_list_append mt_append (pv 11) (pa_cons (pv 1) pa_nil)))
    (pss_cons (ps_if (pt_cmpR (op_neD hr.units) (C8.pe_c (c_shared_words T) hr (by decide) (by rfl) (pa_cons (pv 7) (pa_cons (pv 3) pa_nil))) (pv 10) (nomark _))
    (pss_one (ps_ret pe_bl))
    pss_nil)
    (pss_cons (ps_if (pt_cmpR (op_neSame hr.units) (pe_lc (own := [("_law_at", 12)]) (by rfl) sc_law_right.nd (pi_list (pe_lst (pa_cons pe_int (pa_cons (pe_un un_neg pe_int) pa_nil)))) (blkOk_by (N := ["_law_generator_here", "_law_letters_here", "_law_core", "_law_most", "_law_told", "_law_turn", "_law_many", "_law_texts", "_law_pieces", "_law_given", "_law_due_here", "_law_found", "_law_at", "_law_fresh", "_law_text"]) (sc := C8.fnScope (topS 76)) (own := [("_law_at", 12)]) (by decide +kernel)) (fun _ _ _ _ _ => (pg_name (i := 12) sc_law_right.nd rfl (Or.inl rfl))) (fun _ _ _ _ _ => (pts_one (pt_cmpR (op_neDK (K := K) rfl hr.units) (C8.pe_c (c_shared_words T) hr (by decide) (by rfl) (pa_cons (pe_lst (pa_cons (pe_ix ix_listH (pv 7) (pv 12) (fun _ _ => rfl)) pa_nil)) (pa_cons (pv 3) pa_nil))) (C8.pe_c (c_law_due T) hr (by decide) (by rfl) (pa_cons (pe_lst (pa_cons (pe_ix ix_listH (pv 4) (pv 12) (fun _ _ => rfl)) pa_nil)) (pa_cons (pv 3) pa_nil))) (nomark _)))) (fun _ _ _ _ _ => (pv 12))) (pe_lst pa_nil) (nomark _))
    (pss_one (ps_ret pe_bl))
    pss_nil)
    (pss_cons (ps_if (pt_cmpR (op_neD hr.units) (C8.pe_c (c_shared_words T) hr (by decide) (by rfl) (pa_cons (pe_lst (pa_cons (pe_ix ix_list (pv 7) pe_int (fun _ _ => rfl)) (pa_cons (pe_ix ix_list (pv 7) pe_int (fun _ _ => rfl)) pa_nil))) (pa_cons (pv 3) pa_nil))) (C8.pe_c (c_law_due T) hr (by decide) (by rfl) (pa_cons (pe_slice sl_list (pv 4) po_none (po_some pe_int)) (pa_cons (pv 3) pa_nil))) (nomark _))
    (pss_one (ps_ret pe_bl))
    pss_nil)
    (pss_cons (ps_setLc (i := 13) (own := [("_law_many", 6), ("_law_pieces", 8)]) rfl sc_law_right.nd rfl rfl (sw_true rfl rfl rfl (by decide +kernel)) (pi_list (pv 4)) (blkOk_by (N := ["_law_generator_here", "_law_letters_here", "_law_core", "_law_most", "_law_told", "_law_turn", "_law_many", "_law_texts", "_law_pieces", "_law_given", "_law_due_here", "_law_found", "_law_at", "_law_fresh", "_law_text"]) (sc := C8.fnScope (topS 76)) (own := [("_law_many", 6), ("_law_pieces", 8)]) (by decide +kernel)) (fun _ _ _ _ _ => (pg_two (K := K) (i := 6) (j := 8) rfl rfl sc_law_right.nd rfl rfl (Or.inl rfl) (Or.inl rfl))) (fun _ _ _ _ _ => pts_nil) (fun _ _ _ _ _ => (C8.pe_mk (n_OpenText T) hr (by decide) (by rfl) (pa_cons (pv 6) (pa_cons (pv 8) pa_nil)))))
    (pss_one (ps_ret (pe_and (pe_cmpR (op_eqLO (m_OpenText___eq__ T) rt_mono rt_sp hr (by decide)) (pv 7) (pv 13) (nomark _)) (pe_one (pe_cmpR (op_eqD hr.units) (pe_lc (own := [("_law_text", 14)]) (by rfl) sc_law_right.nd (pi_list (pv 7)) (blkOk_by (N := ["_law_generator_here", "_law_letters_here", "_law_core", "_law_most", "_law_told", "_law_turn", "_law_many", "_law_texts", "_law_pieces", "_law_given", "_law_due_here", "_law_found", "_law_at", "_law_fresh", "_law_text"]) (sc := C8.fnScope (topS 76)) (own := [("_law_text", 14)]) (by decide +kernel)) (fun _ _ _ _ _ => (pg_name (i := 14) sc_law_right.nd rfl (Or.inl rfl))) (fun _ _ _ _ _ => pts_nil) (fun _ _ _ _ _ => (C8.pe_mt0 (m_OpenText_pieces T) hr (by decide) (pv 14)))) (pe_lc (own := [("_law_text", 14)]) (by rfl) sc_law_right.nd (pi_list (pv 13)) (blkOk_by (N := ["_law_generator_here", "_law_letters_here", "_law_core", "_law_most", "_law_told", "_law_turn", "_law_many", "_law_texts", "_law_pieces", "_law_given", "_law_due_here", "_law_found", "_law_at", "_law_fresh", "_law_text"]) (sc := C8.fnScope (topS 76)) (own := [("_law_text", 14)]) (by decide +kernel)) (fun _ _ _ _ _ => (pg_name (i := 14) sc_law_right.nd rfl (Or.inl rfl))) (fun _ _ _ _ _ => pts_nil) (fun _ _ _ _ _ => (C8.pe_mt0 (m_OpenText_pieces T) hr (by decide) (pv 14)))) (nomark _)))))))))))))))))))), ?_⟩
    refine ⟨_, rfl, g, 9990, rfl, G.le (by decide), fun cs H1 s1 G1 lcs lowc ne01 => ?_⟩
    have csne : cs ≠ [] := fun z => by rw [z] at lcs; cases lcs
    refine ⟨_, rfl, _, rfl, g, cs, 9900, 1, 2, rfl, csne, by omega, lowc, G1.le (by decide), by decide, by decide, fun b H2 s2 G2 b1 b2 lowb => ?_⟩
    have bne : b ≠ [] := fun z => by rw [z] at b1; simp at b1
    refine ⟨_, rfl, g, 7, 9800, rfl, G2.le (by decide), by decide, by decide, fun most H3 s3 G3 m0 m1 => ?_⟩
    obtain ⟨most, rfl⟩ : ∃ k : Nat, most = k := ⟨most.toNat, by omega⟩
    refine ⟨by show 0 ≤ sizeLine; decide, fun TL nTL => ⟨by show 3 ≤ sizeLine; decide, fun t0 nt0 => ?_⟩⟩
    have sT := sameNew (o := .lst []) nTL
    have hTL := upd_same (H := H3) (a := TL) (o := .lst [])
    have TLg : TL ≠ g := G3.ne nTL
    have st0 := sameNew (o := .tup [.str (S b), .int (most : Nat), .ref TL]) nt0
    have S3 := (s1.trans s2).trans s3
    have TL0 : H TL = none := sx_free S3 TLg nTL
    refine ⟨t0, _, rfl, .inl (.inl upd_same), rfl, ⟨_, _, rfl, _, _, rfl, _, _, rfl, rfl, ?_⟩⟩
    have S4 := S3.trans (.of (sT.trans st0))
    have G4 := G3.same (sT.trans st0)
    have hTL4 := st0 _ _ hTL
    generalize upd (upd H3 TL (.lst [])) t0 (.tup [.str (S b), .int (most : Nat), .ref TL]) = H4 at S4 G4 hTL4 ⊢
    refine ⟨_, rfl, g, 4, 9700, rfl, G4.le (by decide), by decide, by decide, fun c H5 s5 G5 c0 c1 => ?_⟩
    obtain ⟨c, rfl⟩ : ∃ k : Nat, c = k := ⟨c.toNat, by omega⟩
    refine ⟨_, _, rfl, rfl, ((1 + c : Nat) : Int), congrArg (fun i : Int => [V.int i]) (show (1 : Int) + ((c : Nat) : Int) = ((1 + c : Nat) : Int) by omega), by omega, by omega, ?_⟩
    refine for_it walk_range (fun i σ HH => i ≤ 1 + c ∧ SameX g H HH ∧ Gn (1000 + 2000 * (4 - i)) HH g ∧ ∃ (ds : List Tt) (y5 y6 : Option V), σ = [some (.ref g), some (.str (S cs)), some (.str (S b)), some (.int (most : Nat)), some (.ref TL), y5, y6, none, none, none, none, none, none, none, none] ∧ HH TL = some (.lst (ds.map fun d => .ref d.1)) ∧ (∀ d ∈ ds, Dx g TL HH d) ∧ ds.length = i)
      ⟨Nat.zero_le _, S4.trans s5, G5.le (by decide), [], none, none, rfl, s5 _ _ TLg hTL4, fun d hd => (by cases hd), rfl⟩ (fun _ _ _ _ _ => True.intro) (fun i x σ HH HH' hi pI yy => ?_) fun σ HH pI => ?_
    · obtain ⟨_, SI, GI, ds, y5, y6, rfl, hT, dx, ld⟩ := pI
      obtain ⟨rfl, rfl⟩ := yy
      have ic : i < 1 + c := by
        have : i < (((1 + c : Nat) : Int)).toNat := hi
        omega
      have eG : 1000 + 2000 * (4 - i) = 1000 + 2000 * (4 - (i + 1)) + 2000 := by omega
      rw [eG] at GI
      refine ⟨by show 6 ≤ sizeLine; decide, fun lq nq => ?_⟩
      have sq := sameNew (o := .lst [V.int 1, V.int 2, V.int 1, V.int 3, V.int 0, V.int 2]) nq
      have hq := upd_same (H := HH') (a := lq) (o := .lst [V.int 1, V.int 2, V.int 1, V.int 3, V.int 0, V.int 2])
      have Gq := GI.same sq
      have lqg := GI.ne nq
      refine ⟨_, rfl, g, 6, 1000 + 2000 * (4 - (i + 1)) + 1999, rfl, Gq.le (by omega), by decide, by decide, fun k H6 s6 G6 k0 k1 => ?_⟩
      obtain ⟨k, rfl⟩ : ∃ k' : Nat, k = k' := ⟨k.toNat, by omega⟩
      obtain ⟨m, hm, m3⟩ : ∃ m : Nat, ([V.int 1, V.int 2, V.int 1, V.int 3, V.int 0, V.int 2] : List V)[k]? = some (.int (m : Nat)) ∧ m ≤ 3 := by
        match k, k1 with
        | 0, _ => exact ⟨1, rfl, by decide⟩
        | 1, _ => exact ⟨2, rfl, by decide⟩
        | 2, _ => exact ⟨1, rfl, by decide⟩
        | 3, _ => exact ⟨3, rfl, by decide⟩
        | 4, _ => exact ⟨0, rfl, by decide⟩
        | 5, _ => exact ⟨2, rfl, by decide⟩
        | k + 6, h => omega
      have sx6 := (SameX.of (g := g) sq).trans s6
      refine ⟨lq, _, (k : Int), _, rfl, rfl, .inl (.inl (s6 _ _ lqg hq)), atI_nat hm, ?_⟩
      have hT6 := sx6 _ _ TLg hT
      refine ⟨_, rfl, .inl ⟨rfl, _, .inl (.inl hT6)⟩, _, rfl, ?_⟩
      refine ⟨_, rfl, _, rfl, _, rfl, _, rfl, g, cs, b, m, 1000 + 2000 * (4 - (i + 1)), rfl, lcs, lowc, bne, b2, lowb, m3, G6.le (by omega), fun L ps H7 gr G7 few dr sd => ?_⟩
      refine ⟨by show 2 ≤ sizeLine; decide, fun t nt => ?_⟩
      have st := sameNew (o := .tup [V.int (m : Nat), V.ref L]) nt
      have ht := upd_same (H := H7) (a := t) (o := .tup [V.int (m : Nat), V.ref L])
      have hT7 := gr.sx _ _ TLg hT6
      have hTt := st _ _ hT7
      have LTL : L ≠ TL := fun e => by
        have := gr.new
        rw [e, hT6] at this
        cases this
      refine ⟨TL, _, _, rfl, rfl, hTt, by rw [List.length_map, sizeLine_eq]; omega, by omega, fun z o zg e => ?_, (G7.same st).upd TLg, ds ++ [(t, m, ps)], _, _, rfl, ?_, fun d hd => ?_, by rw [List.length_append, ld]; rfl⟩
      · have zT : z ≠ TL := fun x => by rw [x, TL0] at e; cases e
        rw [upd_ne zT]
        exact st _ _ (gr.sx _ _ zg (sx6 _ _ zg (SI _ _ zg e)))
      · rw [upd_same, List.map_append]
        rfl
      · rcases List.mem_append.mp hd with u | u
        · exact (((dx d u).go GI (sx6.trans (gr.sx.trans (.of st))))).upd hTt
        · rw [List.mem_singleton.mp u]
          obtain ⟨us, hus, pus⟩ := (gr.go G7 (.of st)).pl
          exact Dx.upd ⟨L, ht, ⟨us, hus, pus⟩, gr.ne, LTL, dr, few, m3, sd⟩ hTt
    · obtain ⟨_, SI, GI, ds, y5, y6, rfl, hT, dx, ld⟩ := pI
      rw [Int.toNat_natCast] at ld
      have dd : ∀ d ∈ ds, Dd HH d ∧ Std d.2.1 d.2.1 d.2.2 := fun d hd => by
        obtain ⟨l, h1, h2, _, _, h3, h4, h5, h6⟩ := dx d hd
        exact ⟨⟨l, h1, h2, h3, h4, h5⟩, h6⟩
      have S0 := SI
      clear SI GI dx s1 s2 s3 S3 S4 G1 G2 G3 G4 s5 G5 sT st0 hTL hTL4 nTL nt0
      refine ⟨_, rfl, TL, rfl, ⟨_, .inl (.inl hT)⟩, fun X0 hX0 => ?_⟩
      refine lc_list (K := K) (a := TL) (xs := ds.map fun d => V.ref d.1) (fun i HB => Same HH HB ∧ ∃ es : List E4, HB X0 = some (.lst (es.map fun e => .ref e.1)) ∧ dsE es = ds.take i ∧ ∀ e ∈ es, ∃ l, OTl C HB e.1 l e.2.2.1 (normL e.2.2.2) ∧ l ≠ X0) ⟨sameNew hX0, [], upd_same, rfl, fun e h => by cases h⟩ (fun i HB _ p => .inl (.inl (p.1 _ _ hT))) (fun i v HB hi p => ?_) fun HB p => ?_
      · obtain ⟨sB, es, hX, eds, ot⟩ := p
        rw [List.getElem?_map] at hi
        obtain ⟨d, hd, rfl⟩ : ∃ d, ds[i]? = some d ∧ v = .ref d.1 := by
          cases e : ds[i]? with
          | none => rw [e] at hi; cases hi
          | some t => rw [e] at hi; exact ⟨t, rfl, (Option.some.inj hi).symm⟩
        obtain ⟨⟨l, h1, h2, dr, few, m3⟩, sd⟩ := dd d (List.mem_of_getElem? hd)
        have lds := congrArg List.length eds
        unfold dsE at lds
        rw [List.length_map, List.length_take] at lds
        refine ⟨d.1, _, rfl, .inl (.inl (sB _ _ h1)), rfl, _, _, rfl, _, _, rfl, rfl, rfl, yes_if ?_⟩
        refine ⟨_, rfl, _, rfl, fun x dx nx ndx nex => mk_text nx ndx nex (dr.gl (h2.same sB) few) m3 (by have := meas_few dr; omega) (dr.wl few m3) fun r H5 s5 nr ot1 => ⟨rfl, ?_⟩⟩
        have hX5 := s5 _ _ hX
        have rX : r ≠ X0 := fun e => by rw [e, hX] at nr; cases nr
        have eT : ds.take (i + 1) = ds.take i ++ [d] := by
          rw [List.take_succ, hd]
          rfl
        refine ⟨_, hX5, by rw [List.length_map, sizeLine_eq]; omega, same_upd2 hX0 (sB.trans s5), es ++ [(x, d.1, d.2.1, d.2.2)], by rw [upd_same, List.map_append]; rfl, ?_, fun e he => ?_⟩
        · rw [eT, ← eds]
          unfold dsE
          rw [List.map_append]
          rfl
        · rcases List.mem_append.mp he with u | u
          · obtain ⟨l', o, ne⟩ := ot e u
            exact ⟨l', (o.same s5).updL hX5 ne, ne⟩
          · rw [List.mem_singleton.mp u]
            exact ⟨r, ot1.updL hX5 rX, rX⟩
      obtain ⟨sB, es, hX, eds, ot⟩ := p
      rw [List.length_map, List.take_length] at eds
      have lds := congrArg List.length eds
      unfold dsE at lds
      rw [List.length_map] at lds
      have fa : Fa C HB TL X0 es := ⟨by rw [← ds_map, eds]; exact sB _ _ hT, hX, fun e he => by
        have hm : (e.2.1, e.2.2.1, e.2.2.2) ∈ ds := by
          rw [← eds]
          exact List.mem_map.mpr ⟨e, he, rfl⟩
        obtain ⟨h1, h2⟩ := dd _ hm
        obtain ⟨l, o, _⟩ := ot e he
        exact ⟨⟨l, o⟩, h1.same sB, h2⟩, fun e => by rw [e] at lds; simp at lds; omega, by omega⟩
      have S1 := S0.trans (SameX.of (g := g) sB)
      clear hX eds ot lds sB S0 dd hT hX0
      have lts : (tsE es).length ≤ 4 := by unfold tsE; rw [List.length_map]; exact fa.few
      have lds : (dsE es).length ≤ 4 := by unfold dsE; rw [List.length_map]; exact fa.few
      have e12 : (most : Int) + 2 = ((most + 2 : Nat) : Int) := by omega
      refine ⟨_, rfl, X0, _, rfl, .inl (.inl (.inl fa.text)), fun Gv nGv => ?_⟩
      have sG := sameNew (o := .lst (es.map fun e => V.ref e.1)) nGv
      have hG := upd_same (H := HB) (a := Gv) (o := .lst (es.map fun e => V.ref e.1))
      generalize upd HB Gv (.lst (es.map fun e => V.ref e.1)) = HC at sG hG
      have fa1 := fa.same sG
      refine ⟨_, rfl, _, rfl, TL, dsE es, most, rfl, by rw [ds_map]; exact fa1.told, ds_ne fa.ne, lds, fa1.all.ds, by omega, fun F H3 ys s3 nF hF told0 => ⟨_, _, rfl, ?_⟩⟩
      have told := told_ds told0
      have fa3 := fa1.same s3
      have lowY := told_low fa3.all fa.ne told
      have hG3 := s3 _ _ hG
      have S3 := S1.trans (SameX.of (sG.trans s3))
      have q1 : ∀ {zs : List (List Nat)} {HH : Hp}, Fa C HH TL X0 es → Told zs (fun z => ∀ t ∈ tsE es, WS t.2.1 t.2.2 most z) → zs = ys := fun f t => (told_ts f.all t).one told
      clear S1 sG s3 hG fa1 nF told0 nGv fa
      try dsimp only
      refine if_not (fun R q' => ?_) (fun H4 s4 => ?_)
      · refine ⟨_, rfl, _, rfl, Gv, tsE es, most, rfl, by rw [ts_map]; exact hG3, ts_ne fa3.ne, lts, fa3.all.ts, by omega, fun D H5 zs s5 nD hD lz t5 => ?_⟩
        have ez := q1 fa3 t5
        subst ez
        refine ⟨_, rfl, _, _, dp_Ss hD, dp_Ss (s5 _ _ hF), shaped_Ss lowY, shaped_Ss lowY, _, rfl, ?_⟩
        rw [eqv_Ss lowY]
        refine iteF ⟨_, rfl, _, rfl, Gv, X0, es.map (·.1), rfl, rfl, by rw [List.map_map]; exact s5 _ _ hG3, by rw [List.map_map]; exact s5 _ _ fa3.text, _, rfl, q' _ s5⟩
      have fa4 := fa3.same s4
      have hF4 := s4 _ _ hF
      have S4 := S3.trans (SameX.of s4)
      clear fa3 S3 hG3 hF s4
      try dsimp only
      refine if_not (fun R q' => ?_) (fun H5 s5 => ?_)
      · refine ⟨_, rfl, _, rfl, _, _, rfl, rfl, X0, tsE es, most + 2, congrArg (fun i : Int => [V.ref X0, V.int i]) e12, by rw [ts_map]; exact fa4.text, ts_ne fa4.ne, lts, fa4.all.ts, by omega, fun D H5 zs s5 nD hD lz t5 => ?_⟩
        have fa5 := fa4.same s5
        refine ⟨_, rfl, _, rfl, _, _, rfl, rfl, TL, dsE es, most + 2, congrArg (fun i : Int => [V.ref TL, V.int i]) e12, by rw [ds_map]; exact fa5.told, ds_ne fa4.ne, lds, fa5.all.ds, by omega, fun D2 H6 xs s6 nD2 hD2 t6 => ?_⟩
        have t5' := told_ts fa5.all t5
        have ez := t5'.one (told_ds t6)
        subst ez
        have lowZ := told_low fa5.all fa5.ne t5'
        refine ⟨_, _, dp_Ss (s6 _ _ hD), dp_Ss hD2, shaped_Ss lowZ, shaped_Ss lowZ, _, rfl, ?_⟩
        rw [eqv_Ss lowZ]
        exact q' _ (s5.trans s6)
      have fa5 := fa4.same s5
      have hF5 := s5 _ _ hF4
      have S5 := S4.trans (SameX.of s5)
      clear fa4 S4 hF4 s5
      -- the other way round
      refine ⟨_, rfl, X0, _, rfl, .inl (.inl fa5.text), fun Rv nRv => ?_⟩
      have sR := sameNew (o := .lst (es.map fun e => V.ref e.1).reverse) nRv
      have hR := upd_same (H := H5) (a := Rv) (o := .lst (es.map fun e => V.ref e.1).reverse)
      rw [← List.map_reverse] at sR hR
      rw [← List.map_reverse]
      generalize upd H5 Rv (.lst (es.reverse.map fun e => V.ref e.1)) = H6 at sR hR
      have fa6 := fa5.same sR
      have hF6 := sR _ _ hF5
      have er : Es C H6 es.reverse := fun e he => fa6.all e (List.mem_reverse.mp he)
      refine ⟨_, rfl, Rv, tsE es.reverse, most, rfl, by rw [ts_map]; exact hR, ts_ne (by simpa using fa5.ne), by unfold tsE; rw [List.length_map, List.length_reverse]; exact fa5.few, er.ts, by omega, fun D H7 zs s7 nD hD lz t7 => ?_⟩
      have ez : zs = ys := (told_same (told_ts er t7) fun e => List.mem_reverse).one told
      subst ez
      have hF7 := s7 _ _ hF6
      have S6 := S5.trans (SameX.of sR)
      have lowZ := lowY
      clear fa5 sR hR hF5 S5 nRv er
      try dsimp only
      refine if_not (fun R q' => ?_) (fun H8 s8 => ?_)
      · refine ⟨_, rfl, _, rfl, _, _, dp_Ss hD, dp_Ss hF7, shaped_Ss lowZ, shaped_Ss lowZ, _, rfl, ?_⟩
        rw [eqv_Ss lowZ]
        exact q' _ (Same.refl _)
      have hD8 := s8 _ _ hD
      have s68 := s7.trans s8
      refine ⟨_, rfl, .inl ⟨rfl, _, .inl (.inl hD8)⟩, _, rfl, D, _, _, rfl, rfl, hD8, by rw [List.length_map, sizeLine_eq]; omega, ?_⟩
      have s69 : Same H6 (upd H8 D (.lst (zs.map (fun z => V.str (S z)) ++ [V.str (S cs)]))) := same_upd2 nD s68
      generalize upd H8 D (.lst (zs.map (fun z => V.str (S z)) ++ [V.str (S cs)])) = H9 at s69
      have fa9 := fa6.same s69
      have hF9 := s69 _ _ hF6
      have S9 := S6.trans (SameX.of s69)
      clear fa6 hF6 S6 s69 s68 s8 s7 hD hD8 hF7 nD t7
      try dsimp only
      refine if_not (fun R q' => ?_) (fun HA sA => ?_)
      · refine ⟨_, rfl, _, rfl, X0, tsE es, most, rfl, by rw [ts_map]; exact fa9.text, ts_ne fa9.ne, lts, fa9.all.ts, by omega, fun D H5 xs s5 nD hD lz t5 => ?_⟩
        have ez := q1 fa9 t5
        subst ez
        refine ⟨_, rfl, _, _, dp_Ss hD, dp_Ss (s5 _ _ hF9), shaped_Ss lowY, shaped_Ss lowY, _, rfl, ?_⟩
        rw [eqv_Ss lowY]
        exact q' _ s5
      have faA := fa9.same sA
      have SA := S9.trans (SameX.of sA)
      clear fa9 hF9 S9 sA lowZ
      obtain ⟨e0, er, rfl⟩ : ∃ e0 er, es = e0 :: er := by
        cases es with
        | nil => exact absurd rfl faA.ne
        | cons e r => exact ⟨e, r, rfl⟩
      try dsimp only
      refine if_not (fun R q' => ?_) (fun HD sD => ?_)
      · refine ⟨1, rfl, by show 2 ≤ sizeLine; decide, fun ln nln => ?_⟩
        have sl := sameNew (o := .lst [V.int 0, V.int (-1)]) nln
        have hl := upd_same (H := HA) (a := ln) (o := .lst [V.int 0, V.int (-1)])
        generalize upd HA ln (.lst [V.int 0, V.int (-1)]) = HL at sl hl
        have faL := faA.same sl
        refine ⟨ln, rfl, ⟨_, .inl (.inl hl)⟩, fun Dl hDl => ?_⟩
        have at2 : ∀ (i : Nat) (v : V), ([V.int 0, V.int (-1)] : List V)[i]? = some v → ∃ (j : Int) (e : E4), v = .int j ∧ e ∈ e0 :: er ∧ atI ((e0 :: er).map fun e => V.ref e.1) j = some (.ref e.1) ∧ atI ((e0 :: er).map fun e => V.ref e.2.1) j = some (.ref e.2.1) := fun i v hv => by
          match i, hv with
          | 0, hv =>
            cases hv
            exact ⟨0, e0, rfl, List.mem_cons_self, atI_nat (j := 0) rfl, atI_nat (j := 0) rfl⟩
          | 1, hv =>
            cases hv
            have eL := List.dropLast_concat_getLast (show e0 :: er ≠ [] by simp)
            refine ⟨-1, (e0 :: er).getLast (by simp), rfl, List.getLast_mem _, ?_, ?_⟩
            · conv => lhs; rw [← eL, List.map_append]
              exact atI_last _ _
            · conv => lhs; rw [← eL, List.map_append]
              exact atI_last _ _
          | i + 2, hv => simp at hv
        refine lc_list (K := K) (a := ln) (xs := [V.int 0, V.int (-1)]) (fun i HC => Same HL HC ∧ HC Dl = some (.lst [])) ⟨sameNew hDl, upd_same⟩ (fun i HC _ p => .inl (.inl (p.1 _ _ hl))) (fun i v HC hi p => ?_) fun HC p => ?_
        · obtain ⟨sC, hDC⟩ := p
          obtain ⟨j, e, rfl, em, a1, a2⟩ := at2 i v hi
          have faC := faL.same sC
          have e1 : Es C HC [e] := fun x hx => by rw [List.mem_singleton.mp hx]; exact faC.all e em
          refine ⟨rfl, _, rfl, _, rfl, X0, _, j, _, rfl, rfl, faC.text, a1, by show 1 ≤ sizeLine; decide, fun l1 nl1 => ?_⟩
          have s1 := sameNew (o := .lst [V.ref e.1]) nl1
          refine ⟨_, rfl, l1, tsE [e], most, rfl, upd_same, by simp [tsE], by simp [tsE], (e1.same s1).ts, by omega, fun D H5 xs s5 nD hD lz t5 => ?_⟩
          have fa5 := (faC.same s1).same s5
          have e5 := (e1.same s1).same s5
          refine ⟨_, rfl, _, rfl, TL, _, j, _, rfl, rfl, fa5.told, a2, by show 1 ≤ sizeLine; decide, fun l2 nl2 => ?_⟩
          have s2 := sameNew (o := .lst [V.ref e.2.1]) nl2
          refine ⟨_, rfl, l2, dsE [e], most, rfl, upd_same, by simp [dsE], by simp [dsE], (e5.same s2).ds, by omega, fun D2 H6 us s6 nD2 hD2 t6 => ?_⟩
          have t5' := told_ts e5 t5
          have ez := t5'.one (told_ds t6)
          subst ez
          have lowZ := told_low e5 (by simp) t5'
          refine ⟨_, _, dp_Ss (s6 _ _ (s2 _ _ hD)), dp_Ss hD2, shaped_Ss lowZ, shaped_Ss lowZ, _, rfl, ?_⟩
          rw [eqv_Ss lowZ]
          have sAll := ((s1.trans s5).trans s2).trans s6
          exact iteF ⟨sC.trans sAll, sAll _ _ hDC⟩
        · obtain ⟨sC, hDC⟩ := p
          refine ⟨by show 0 ≤ sizeLine; decide, fun l0 nl0 => ?_⟩
          have s0 := sameNew (o := .lst []) nl0
          refine ⟨.list [], .lst (.inl (.inl (s0 _ _ hDC))) .nil, .lst (.inl (.inl upd_same)) .nil, by decide +kernel, _, rfl, ?_⟩
          exact q' _ ((sl.trans sC).trans s0)
      have faD := faA.same sD
      have SD := SA.trans (SameX.of sD)
      clear faA SA sD
      try dsimp only
      refine if_not (fun R q' => ?_) (fun HE sE => ?_)
      · refine ⟨_, rfl, X0, _, 0, _, rfl, rfl, .inl (.inl faD.text), atI_nat (j := 0) rfl, _, rfl, X0, _, 0, _, rfl, rfl, .inl (.inl faD.text), atI_nat (j := 0) rfl, by show 2 ≤ sizeLine; decide, fun l1 nl1 => ?_⟩
        have s1 := sameNew (o := .lst [V.ref e0.1, V.ref e0.1]) nl1
        have e1 : Es C HD [e0, e0] := fun x hx => by
          rcases List.mem_cons.mp hx with z | z
          · rw [z]; exact faD.all e0 List.mem_cons_self
          · rw [List.mem_singleton.mp z]; exact faD.all e0 List.mem_cons_self
        have e2 : Es C HD [e0] := fun x hx => by rw [List.mem_singleton.mp hx]; exact faD.all e0 List.mem_cons_self
        refine ⟨_, rfl, l1, tsE [e0, e0], most, rfl, upd_same, by simp [tsE], by simp [tsE], (e1.same s1).ts, by omega, fun D H5 xs s5 nD hD lz t5 => ?_⟩
        have fa5 := (faD.same s1).same s5
        refine ⟨_, rfl, 1, rfl, TL, _, rfl, .inl (.inl fa5.told), fun l2 nl2 => ?_⟩
        rw [show cutV ((e0 :: er).map fun e => V.ref e.2.1) none (some 1) = [V.ref e0.2.1] from cutV_take _ 1]
        have s2 := sameNew (o := .lst [V.ref e0.2.1]) nl2
        refine ⟨_, rfl, l2, dsE [e0], most, rfl, upd_same, by simp [dsE], by simp [dsE], (((e2.same s1).same s5).same s2).ds, by omega, fun D2 H6 us s6 nD2 hD2 t6 => ?_⟩
        have t5' := told_ts ((e1.same s1).same s5) t5
        have ez := (told_same t5' (es' := [e0]) fun e => by simp).one (told_ds t6)
        subst ez
        have lowZ := told_low ((e1.same s1).same s5) (by simp) t5'
        refine ⟨_, _, dp_Ss (s6 _ _ (s2 _ _ hD)), dp_Ss hD2, shaped_Ss lowZ, shaped_Ss lowZ, _, rfl, ?_⟩
        rw [eqv_Ss lowZ]
        exact q' _ (((s1.trans s5).trans s2).trans s6)
      have faE := faD.same sE
      have SE := SD.trans (SameX.of sE)
      clear faD SD sE
      -- the texts anew
      refine ⟨_, rfl, TL, rfl, ⟨_, .inl (.inl faE.told)⟩, fun X1 hX1n => ?_⟩
      refine lc_list (K := K) (a := TL) (xs := (e0 :: er).map fun e => V.ref e.2.1) (fun i HB => Same HE HB ∧ ∃ xs : List Addr, HB X1 = some (.lst (xs.map V.ref)) ∧ xs.length = min i (e0 :: er).length ∧ ∀ (j : Nat) (x : Addr) (e : E4), xs[j]? = some x → (e0 :: er)[j]? = some e → ∃ l, OTl C HB x l e.2.2.1 (normL e.2.2.2) ∧ l ≠ X1) ⟨sameNew hX1n, [], upd_same, by simp, fun j x e h => by simp at h⟩ (fun i HB _ p => .inl (.inl (p.1 _ _ faE.told))) (fun i v HB hi p => ?_) fun HB p => ?_
      · obtain ⟨sB, xs, hX, lx, ot⟩ := p
        rw [List.getElem?_map] at hi
        obtain ⟨e, he, rfl⟩ : ∃ e, (e0 :: er)[i]? = some e ∧ v = .ref e.2.1 := by
          cases z : (e0 :: er)[i]? with
          | none => rw [z] at hi; cases hi
          | some t => rw [z] at hi; exact ⟨t, rfl, (Option.some.inj hi).symm⟩
        have il : i < (e0 :: er).length := (List.getElem?_eq_some_iff.mp he).1
        obtain ⟨l, h1, h2, dr, few, m3⟩ := (faE.all e (List.mem_of_getElem? he)).dd
        refine ⟨e.2.1, _, rfl, .inl (.inl (sB _ _ h1)), rfl, _, _, rfl, _, _, rfl, rfl, rfl, yes_if ?_⟩
        refine ⟨_, rfl, _, rfl, fun x dx nx ndx nex => mk_text nx ndx nex (dr.gl (h2.same sB) few) m3 (by have := meas_few dr; omega) (dr.wl few m3) fun r H5 s5 nr ot1 => ⟨rfl, ?_⟩⟩
        have hX5 := s5 _ _ hX
        have rX : r ≠ X1 := fun z => by rw [z, hX] at nr; cases nr
        have f4 := faE.few
        refine ⟨_, hX5, by rw [List.length_map, sizeLine_eq]; omega, same_upd2 hX1n (sB.trans s5), xs ++ [x], by rw [upd_same, List.map_append]; rfl, by rw [List.length_append, lx, List.length_singleton]; omega, fun j y e' hy he' => ?_⟩
        rw [List.getElem?_append] at hy
        by_cases z : j < xs.length
        · rw [if_pos z] at hy
          obtain ⟨l', o, ne⟩ := ot j y e' hy he'
          exact ⟨l', (o.same s5).updL hX5 ne, ne⟩
        · rw [if_neg z] at hy
          have j0 : j = i := by
            have := (List.getElem?_eq_some_iff.mp hy).1
            simp at this
            omega
          subst j0
          rw [he] at he'
          cases he'
          rw [show j - xs.length = 0 by omega] at hy
          cases hy
          exact ⟨r, ot1.updL hX5 rX, rX⟩
      obtain ⟨sB, xs, hX1, lx, ot⟩ := p
      rw [List.length_map, Nat.min_self] at lx
      have faB := faE.same sB
      have SB := SE.trans (SameX.of sB)
      have pr : Prs (DIns C (RT C)) ((e0 :: er).map fun e => V.ref e.1) (xs.map V.ref) HB := ⟨by rw [List.length_map, List.length_map, lx], fun i x y h1 h2 => by
        rw [List.getElem?_map] at h1 h2
        cases he : (e0 :: er)[i]? with
        | none => rw [he] at h1; cases h1
        | some e =>
          cases hx : xs[i]? with
          | none => rw [hx] at h2; cases h2
          | some x' =>
            rw [he] at h1
            rw [hx] at h2
            cases h1
            cases h2
            obtain ⟨l, o, _⟩ := ot i x' e hx he
            have oe := (faB.all e (List.mem_of_getElem? he)).ot
            obtain ⟨d1, f1, g1⟩ := oe.at'
            obtain ⟨d2, f2, g2⟩ := OT.at' ⟨l, o⟩
            exact ⟨e.1, x', d1, d2, f1, f2, rfl, rfl, g1, g2, _, _, oe, ⟨l, o⟩⟩⟩
      refine ⟨_, rfl, _, rfl, ⟨X0, X1, _, _, rfl, rfl, faB.text, hX1, pr⟩, fun HX0 ext => ⟨_, rfl, iteT ?_⟩⟩
      have ext : Same HB HX0 := ext
      have faX := faB.same ext
      have hX0 := faX.text
      have gX0 : ∀ (i : Nat) (v : V), ((e0 :: er).map fun e => V.ref e.1)[i]? = some v → ∃ e x l, v = .ref x ∧ (e0 :: er)[i]? = some e ∧ OTl C HX0 x l e.2.2.1 (normL e.2.2.2) := fun i v hi => by
        rw [List.getElem?_map] at hi
        cases z : (e0 :: er)[i]? with
        | none => rw [z] at hi; cases hi
        | some e =>
          rw [z] at hi
          obtain ⟨l, o⟩ := (faX.all e (List.mem_of_getElem? z)).ot
          exact ⟨e, e.1, l, (Option.some.inj hi).symm, rfl, o⟩
      refine ⟨_, rfl, X0, rfl, ⟨_, .inl (.inl hX0)⟩, fun YX0 nY => ?_⟩
      refine lc_list (K := K) (a := X0) (xs := (e0 :: er).map fun e => V.ref e.1) (fun i HC => Same HX0 HC ∧ ∃ ws, HC YX0 = some (.lst ws) ∧ Ps HC ws (((e0 :: er).take i).map fun e => normL e.2.2.2) ∧ ∀ L, V.ref L ∈ ws → L ≠ YX0) ⟨sameNew nY, [], upd_same, .nil, fun L h => by cases h⟩ (fun i HC _ p => .inl (.inl (p.1 _ _ hX0))) (fun i v HC hi p => ?_) fun HC p => ?_
      · obtain ⟨sC, ws, hws, pws, ne⟩ := p
        obtain ⟨e, x, l, rfl, he, ot⟩ := gX0 i v hi
        have ot := ot.same sC
        obtain ⟨dx, hx⟩ := ot.at_
        have lw := pws.len
        rw [List.length_map, List.length_take] at lw
        have eT : (((e0 :: er).take (i + 1)).map fun e => normL e.2.2.2) = (((e0 :: er).take i).map fun e => normL e.2.2.2) ++ [normL e.2.2.2] := by
          rw [List.take_succ, he, List.map_append]
          rfl
        refine ⟨rfl, yes_if ⟨_, rfl, x, dx, _, rfl, hx, (OF_no l e.2.2.1).1, x, e.2.2.1, normL e.2.2.2, rfl, ⟨l, ot⟩, fun L H5 s5 nL gl => ?_⟩⟩
        have hw5 := s5 _ _ hws
        have LY : L ≠ YX0 := fun z => by rw [z, hws] at nL; cases nL
        rw [eT]
        obtain ⟨us, hus, pus⟩ := gl.at_
        refine ⟨ws, hw5, by rw [sizeLine_eq]; have := faE.few; omega, same_upd2 nY (sC.trans s5), _, upd_same, ((pws.same s5).updL hw5 ne).snoc ⟨us, by rw [upd_ne LY]; exact hus, pus.mono (tup_upd hw5)⟩, fun L' h' => ?_⟩
        rcases List.mem_append.mp h' with z | z
        · exact ne L' z
        · have := List.mem_singleton.mp z
          cases this
          exact LY
      obtain ⟨sCX0, wsX0, hwsX0, pwsX0, _⟩ := p
      rw [List.length_map, List.take_length] at pwsX0
      have hX1' := sCX0 _ _ (ext _ _ hX1)
      generalize hq : HC = HX1 at *
      have gX1 : ∀ (i : Nat) (v : V), (xs.map V.ref)[i]? = some v → ∃ e x l, v = .ref x ∧ (e0 :: er)[i]? = some e ∧ OTl C HX1 x l e.2.2.1 (normL e.2.2.2) := fun i v hi => by
        rw [List.getElem?_map] at hi
        cases z : xs[i]? with
        | none => rw [z] at hi; cases hi
        | some x =>
          rw [z] at hi
          have il := (List.getElem?_eq_some_iff.mp z).1
          rw [lx] at il
          have he := List.getElem?_eq_getElem il
          obtain ⟨l, o, _⟩ := ot i x _ z he
          exact ⟨_, x, l, (Option.some.inj hi).symm, he, (o.same ext).same sCX0⟩
      have hX1 := hX1'
      refine ⟨_, rfl, X1, rfl, ⟨_, .inl (.inl hX1)⟩, fun YX1 nY => ?_⟩
      refine lc_list (K := K) (a := X1) (xs := xs.map V.ref) (fun i HC => Same HX1 HC ∧ ∃ ws, HC YX1 = some (.lst ws) ∧ Ps HC ws (((e0 :: er).take i).map fun e => normL e.2.2.2) ∧ ∀ L, V.ref L ∈ ws → L ≠ YX1) ⟨sameNew nY, [], upd_same, .nil, fun L h => by cases h⟩ (fun i HC _ p => .inl (.inl (p.1 _ _ hX1))) (fun i v HC hi p => ?_) fun HC p => ?_
      · obtain ⟨sC, ws, hws, pws, ne⟩ := p
        obtain ⟨e, x, l, rfl, he, ot⟩ := gX1 i v hi
        have ot := ot.same sC
        obtain ⟨dx, hx⟩ := ot.at_
        have lw := pws.len
        rw [List.length_map, List.length_take] at lw
        have eT : (((e0 :: er).take (i + 1)).map fun e => normL e.2.2.2) = (((e0 :: er).take i).map fun e => normL e.2.2.2) ++ [normL e.2.2.2] := by
          rw [List.take_succ, he, List.map_append]
          rfl
        refine ⟨rfl, yes_if ⟨_, rfl, x, dx, _, rfl, hx, (OF_no l e.2.2.1).1, x, e.2.2.1, normL e.2.2.2, rfl, ⟨l, ot⟩, fun L H5 s5 nL gl => ?_⟩⟩
        have hw5 := s5 _ _ hws
        have LY : L ≠ YX1 := fun z => by rw [z, hws] at nL; cases nL
        rw [eT]
        obtain ⟨us, hus, pus⟩ := gl.at_
        refine ⟨ws, hw5, by rw [sizeLine_eq]; have := faE.few; omega, same_upd2 nY (sC.trans s5), _, upd_same, ((pws.same s5).updL hw5 ne).snoc ⟨us, by rw [upd_ne LY]; exact hus, pus.mono (tup_upd hw5)⟩, fun L' h' => ?_⟩
        rcases List.mem_append.mp h' with z | z
        · exact ne L' z
        · have := List.mem_singleton.mp z
          cases this
          exact LY
      obtain ⟨sCX1, wsX1, hwsX1, pwsX1, _⟩ := p
      rw [List.length_map, lx, List.take_length] at pwsX1
      have lowP : ∀ ps ∈ (e0 :: er).map (fun e => normL e.2.2.2), ∀ p ∈ ps, Low p.1 := fun ps hps p hp => by
        obtain ⟨e, he, rfl⟩ := List.mem_map.mp hps
        obtain ⟨l, o⟩ := (faX.all e he).ot
        exact o.gl.low p hp
      refine ⟨_, _, .lst (.inl (.inl (sCX1 _ _ hwsX0))) (pwsX0.same sCX1).dp, .lst (.inl (.inl hwsX1)) pwsX1.dp, shaped_dPl lowP, shaped_dPl lowP, ?_⟩
      rw [eqv_dPl lowP]
      exact q _ (SB.trans (.of ((ext.trans sCX0).trans sCX1)))
end
end K41

set_option Elab.async false
set_option linter.all false
set_option maxRecDepth 100000
set_option maxHeartbeats 4000000
namespace K41
open PySem PySem.Spec PyProof.Rows L2 CK SX NM
theorem flat_one (c n : Nat) : (List.replicate n [c]).flatten = List.replicate n c := by
  induction n with
  | zero => rfl
  | succ n ih => rw [List.replicate_succ, List.flatten_cons, ih]; rfl
def oneP (c : Nat) : List Pn := [([c], [0, 1])]
theorem wr_oneP (c k : Nat) : NM.wr [k] (oneP c) = List.replicate k c := by
  have v1 : valF [0, 1] [k] = k := by show 0 + (1 * k + 0) = k; omega
  show WM.pw [c] (valF [0, 1] [k]) ++ [] = _
  rw [v1, List.append_nil]
  exact flat_one c k
theorem box_one {N : Nat} {pt : List Nat} : pt ∈ box 1 N ↔ ∃ k, k ≤ N ∧ pt = [k] := by
  constructor
  · intro h
    have l := box_len h
    obtain ⟨k, rfl⟩ := List.length_eq_one_iff.mp l
    exact ⟨k, box_mem h k List.mem_cons_self, rfl⟩
  · rintro ⟨k, hk, rfl⟩
    exact box_in rfl fun x hx => by rw [List.mem_singleton.mp hx]; exact hk
theorem told_one (c : Nat) {x : Addr} : Told ((List.range 41).map fun k => List.replicate k c) (fun z => ∀ t ∈ [((x, 1, normL (oneP c)) : Tt)], WS t.2.1 t.2.2 40 z) := by
  have lF : LenF 1 (oneP c) := fun p hp => by rw [List.mem_singleton.mp hp]; rfl
  refine ⟨?_, ?_, fun z => ?_⟩
  · rw [List.nodup_iff_pairwise_ne, List.pairwise_map]
    refine List.pairwise_lt_range.imp fun {a b} h e => ?_
    have := congrArg List.length e
    rw [List.length_replicate, List.length_replicate] at this
    omega
  · rw [List.pairwise_map]
    refine List.pairwise_lt_range.imp fun {a b} h => .inl ?_
    rw [List.length_replicate, List.length_replicate]
    exact h
  · rw [List.mem_map]
    constructor
    · rintro ⟨k, hk, rfl⟩ t ht
      rw [List.mem_singleton.mp ht]
      have hk := List.mem_range.mp hk
      exact ⟨[k], box_one.mpr ⟨k, by omega, rfl⟩, by rw [wr_normL lF, wr_oneP], by rw [List.length_replicate]; omega⟩
    · intro h
      obtain ⟨pt, hp, h1, h2⟩ := h _ List.mem_cons_self
      obtain ⟨k, hk, rfl⟩ := box_one.mp hp
      rw [wr_normL lF, wr_oneP] at h1
      exact ⟨k, List.mem_range.mpr (by omega), h1⟩
def sp_law (K : PySem.W.Frag) : Sp := fun vs H Q _ => ∃ (a : Addr) (ns : List Int), vs = [.ref a] ∧ SqL K H a (ns.map V.int) ∧ ns.length ≤ 63 ∧ ∀ H', Q (.bl true) H'
theorem law_end {l : PySem.W.OpenLaw} {w : World} {K : PySem.W.Frag} {mg : Str → Option Value} {fa C : Addr} (T : Txt K mg C) (hfa : mg "law" = some (.ref fa)) :
    ∃ fd : FuncData, (∀ (s : Shared) (v : Value), BindsTo s fd ⟨[v], []⟩ [("_law_script", v)]) ∧ ∀ base : Heap, K.In base → base.Ns mainGlobals mg → FnOk l.prog w K mg base C8.CX0 14 fa fd ["_law_script"] (sp_law K) := by
  obtain ⟨f, fd, hm, hb, hF⟩ := T.d_law.one
  have e := hfa.symm.trans hm
  cases e
  refine ⟨fd, hb, fun base _ _ => hF sc_law (fun vs H Q E h => ?_) (fun f cdv A outer s H vs Q E hr h => ?_)⟩
  · obtain ⟨_, _, rfl, _⟩ := h; rfl
  · obtain ⟨a, ns, rfl, hS, hl, q⟩ := h
    refine ⟨_, (pss_cons (ps_for PassesOwn.never rfl (pi_range1 (by rfl) T.m_range (pa_cons pe_int pa_nil)) (pg_name (i := 1) sc_law.nd rfl (Or.inl rfl))
    (pss_one (ps_if (pt_not (pt_val (C8.pe_c (c_law_right T) hr (by decide) (by rfl) (pa_cons (C8.pe_c (c_law_generator T) hr (by decide) (by rfl) (pa_cons (pv 0) (pa_cons (pv 1) pa_nil))) pa_nil))))
    (pss_one (ps_ret pe_bl))
    pss_nil)))
    (pss_cons (ps_set (i := 2) sc_law.nd rfl (Or.inr rfl) (pe_ix ix_str (C8.pe_c (c_law_letters T) hr (by decide) (by rfl) (pa_cons (C8.pe_c (c_law_generator T) hr (by decide) (by rfl) (pa_cons (pv 0) (pa_cons pe_int pa_nil))) pa_nil)) pe_int (fun _ _ => rfl)))
    (pss_one (ps_ret (pe_cmpR (op_eqD hr.units) (C8.pe_c (c_shared_words T) hr (by decide) (by rfl) (pa_cons (pe_lst (pa_cons (C8.pe_mk (n_OpenText T) hr (by decide) (by rfl) (pa_cons pe_int (pa_cons (pe_lst (pa_cons (pe_tup (pa_cons (pv 2) (pa_cons (pe_tup (pa_cons pe_int (pa_cons pe_int pa_nil))) pa_nil))) pa_nil)) pa_nil))) pa_nil)) (pa_cons pe_int pa_nil))) (pe_lc (own := [("_law_many", 3)]) (by rfl) sc_law.nd (pi_range1 (by rfl) T.m_range (pa_cons pe_int pa_nil)) (blkOk_by (N := ["_law_script", "_law_index", "_law_letter", "_law_many"]) (sc := C8.fnScope (topS 77)) (own := [("_law_many", 3)]) (by decide +kernel)) (fun _ _ _ _ _ => (pg_name (i := 3) sc_law.nd rfl (Or.inl rfl))) (fun _ _ _ _ _ => pts_nil) (fun _ _ _ _ _ => (pe_op op_repS (pv 2) (pv 3)))) (nomark _)))))), ?_⟩
    refine ⟨2, rfl, by decide, by decide, ?_⟩
    refine for_it walk_range (fun i σ H' => Same H H' ∧ ∃ y1, σ = [some (.ref a), y1, none, none]) ⟨Same.refl _, none, rfl⟩ (fun _ _ _ _ _ => True.intro) (fun i x σ H' H'' hi p y => ?_) fun σ H' p => ?_
    · obtain ⟨s0, y1, rfl⟩ := p
      obtain ⟨rfl, rfl⟩ := y
      have i3 : i < 2 := hi
      refine ⟨_, rfl, _, rfl, a, ns, i, by show [V.ref a, V.int (0 + (i : Int))] = _; rw [Int.zero_add], s0.seq hS, by omega, fun g H1 H2 s1 n1 s2 G2 => ?_⟩
      refine ⟨g, rfl, G2.le (by decide), fun H3 s3 => ⟨_, rfl, iteF ⟨fun b o e => ?_, _, rfl⟩⟩⟩
      have e1 := s1 _ _ (s0 b o e)
      exact s3 b o (fun z => by rw [z, n1] at e1; cases e1) (s2 _ _ e1)
    · obtain ⟨s0, y1, rfl⟩ := p
      refine ⟨_, rfl, a, ns, 2, rfl, s0.seq hS, by decide, fun g H1 H2 s1 n1 s2 G2 => ?_⟩
      refine ⟨g, 9990, rfl, G2.le (by decide), fun cs H3 s3 G3 lcs lowc ne01 => ?_⟩
      have h0 : 0 < cs.length := by omega
      have hz := List.getElem?_eq_getElem h0
      have lc := lowc _ (List.getElem_mem h0)
      generalize cs[0] = c at hz lc
      have lc1 : Low [c] := fun x hx => by rw [List.mem_singleton.mp hx]; exact lc
      refine ⟨S cs, _, c, rfl, rfl, len_line (by omega), atI_nat (xs := cs) (j := 0) hz, ?_⟩
      refine ⟨_, rfl, by show 2 ≤ sizeLine; decide, fun f1 nf1 => ⟨by show 2 ≤ sizeLine; decide, fun p1 np1 => ⟨by show 1 ≤ sizeLine; decide, fun L nL => ?_⟩⟩⟩
      have t1 := sameNew (o := .tup [V.int 0, V.int 1]) nf1
      have t1' := upd_same (H := H3) (a := f1) (o := .tup [V.int 0, V.int 1])
      have u1 := sameNew (o := .tup [V.str (S [c]), V.ref f1]) np1
      have u1' := upd_same (H := upd H3 f1 (.tup [V.int 0, V.int 1])) (a := p1) (o := .tup [V.str (S [c]), V.ref f1])
      have sL := sameNew (o := .lst [V.ref p1]) nL
      have hL := upd_same (H := upd (upd H3 f1 (.tup [V.int 0, V.int 1])) p1 (.tup [V.str (S [c]), V.ref f1])) (a := L) (o := .lst [V.ref p1])
      have pl : PL _ L (oneP c) := ⟨_, hL, .one ⟨f1, sL _ _ u1', (sL _ _ (u1 _ _ t1') : _ = _)⟩⟩
      have dr : Dr 1 (oneP c) := fun p hp => by
        rw [List.mem_singleton.mp hp]
        exact ⟨rfl, by simp, lc1, show ∀ x ∈ [0, 1], x ≤ 2 from by decide⟩
      have few : (oneP c).length ≤ 5 := by show 1 ≤ 5; decide
      have lF : LenF 1 (oneP c) := fun p hp => (dr p hp).1
      refine fun x dx nx ndx nex => mk_text nx ndx nex (dr.gl pl few) (by decide) (by have := meas_few dr; omega) (dr.wl few (by decide)) fun r1 H5 s5 nr1 ot1 => ⟨rfl, by show 1 ≤ sizeLine; decide, fun X nX => ?_⟩
      have sX := sameNew (o := .lst [V.ref x]) nX
      have tx : Tx C H5 x 1 (normL (oneP c)) := ⟨⟨r1, ot1⟩, by decide, nm_normL lF, fun i hi => by
        have i0 : i = 0 := by omega
        subst i0
        exact ukn_norm lF (by decide) List.mem_cons_self (by simp) (show (1 : Nat) ≠ 0 by decide), by
        rw [wr_normL lF]
        exact Nat.lt_of_le_of_lt (dr.ones few (by decide)) (by decide)⟩
      refine ⟨X, [(x, 1, normL (oneP c))], 40, rfl, upd_same, by simp, by simp, fun t ht => by rw [List.mem_singleton.mp ht]; exact tx.same sX, by decide, fun D H6 zs s6 nD hD lz told => ?_⟩
      have ez := told.one (told_one c)
      subst ez
      have lowZ : ∀ z ∈ (List.range 41).map (fun k => List.replicate k c), Low z := fun z hz => by
        obtain ⟨k, _, rfl⟩ := List.mem_map.mp hz
        intro d hd
        rw [List.eq_of_mem_replicate hd]
        exact lc
      refine ⟨41, rfl, by decide, by decide, fun Dl hDl => ?_⟩
      refine lc_range (fun i HC => Same H6 HC ∧ HC Dl = some (.lst (((List.range i).map fun k => List.replicate k c).map fun z => V.str (S z)))) ⟨sameNew hDl, upd_same⟩ (fun i HC hi p => ?_) fun HC p => ?_
      · obtain ⟨sC, hC⟩ := p
        have hi : i < 41 := hi
        refine ⟨rfl, yes_if ⟨_, rfl, _, rfl, [c], i, rfl, congrArg V.int (by omega), by omega, by simp, _, hC, by rw [List.length_map, List.length_map, List.length_range, sizeLine_eq]; omega, same_upd2 hDl sC, ?_⟩⟩
        rw [upd_same, List.range_succ, List.map_append, List.map_append, flat_one]
        rfl
      · obtain ⟨sC, hC⟩ := p
        refine ⟨_, _, dp_Ss (sC _ _ hD), dp_Ss hC, shaped_Ss lowZ, shaped_Ss lowZ, ?_⟩
        have e := eqv_Ss lowZ
        refine Eq.mpr ?_ (q HC)
        rw [show (41 : Int).toNat = 41 from rfl, e]
end K41

open PySem PySem.W PyProof.Rows
set_option maxHeartbeats 0 in
theorem PySem.Challenge.cw_countscribe_k41_words_that_several_texts_holds : PySem.Challenge.rw_countscribe_k41_words_that_several_texts.Holds := by
  w_on; o_law; k_head; (case hw => w_witness2)
  k_fill
  refine L2.walk_of (l := PySem.Challenge.rw_countscribe_k41_words_that_several_texts) (n := 63) (k := 14) (x := "_law_script") (CX := fun _ => C8.CX0) (sp := fun w => K41.sp_law _) rfl (by decide) rfl ⟨rfl, by decide, by decide⟩ (fun w h Y => PySem.W.kIn_of Y) ?F (fun _ _ a ns hl _ hS => ⟨a, ns, rfl, hS, hl, fun _ => rfl⟩) (fun _ _ _ _ _ h => h)
  case F =>
    intro w mg fa h KX G hmg
    refine' CK.with_cls KX "OpenText" (CK.clF_mk KX G ?a ?pg ?hd ?po ?sa ?mk ?kp ?ha ?hn ?htk ?hm) fun k_OpenText => ?_
    (case a => k_is); (case pg => k_is); (case hd => k_is); (case po => k_is); (case sa => k_is); (case mk => k_is); (case kp => k_is); (case ha => k_is); (case hn => k_is); (case htk => k_is); (case hm => k_is)
    have f_many : L2.NoAttr _ _ "_many" := CK.noA k_OpenText "_many" (by k_is)
    have f_pieces : L2.NoAttr _ _ "_pieces" := CK.noA k_OpenText "_pieces" (by k_is)
    refine' CK.with_def KX "is_whole" (K41.topS 10) ["value"] (CK.defF_mk KX G ?a ?l ?c ?k fun _ _ _ _ _ _ us hl => match us, hl with | [_], _ => rfl) fun d_is_whole => ?_
    (case a => k_is); (case l => k_is); (case c => k_is); (case k => k_is)
    refine' CK.with_def KX "is_count" (K41.topS 11) ["value"] (CK.defF_mk KX G ?a ?l ?c ?k fun _ _ _ _ _ _ us hl => match us, hl with | [_], _ => rfl) fun d_is_count => ?_
    (case a => k_is); (case l => k_is); (case c => k_is); (case k => k_is)
    refine' CK.with_def KX "is_within" (K41.topS 12) ["value", "low", "high"] (CK.defF_mk KX G ?a ?l ?c ?k fun _ _ _ _ _ _ us hl => match us, hl with | [_, _, _], _ => rfl) fun d_is_within => ?_
    (case a => k_is); (case l => k_is); (case c => k_is); (case k => k_is)
    refine' CK.with_def KX "is_lettered" (K41.topS 13) ["value", "most"] (CK.defF_mk KX G ?a ?l ?c ?k fun _ _ _ _ _ _ us hl => match us, hl with | [_, _], _ => rfl) fun d_is_lettered => ?_
    (case a => k_is); (case l => k_is); (case c => k_is); (case k => k_is)
    refine' CK.with_def KX "need_within" (K41.topS 14) ["value", "low", "high"] (CK.defF_mk KX G ?a ?l ?c ?k fun _ _ _ _ _ _ us hl => match us, hl with | [_, _, _], _ => rfl) fun d_need_within => ?_
    (case a => k_is); (case l => k_is); (case c => k_is); (case k => k_is)
    refine' CK.with_def KX "need_many" (K41.topS 15) ["value"] (CK.defF_mk KX G ?a ?l ?c ?k fun _ _ _ _ _ _ us hl => match us, hl with | [_], _ => rfl) fun d_need_many => ?_
    (case a => k_is); (case l => k_is); (case c => k_is); (case k => k_is)
    refine' CK.with_def KX "is_form_for" (K41.topS 17) ["many", "value"] (CK.defF_mk KX G ?a ?l ?c ?k fun _ _ _ _ _ _ us hl => match us, hl with | [_, _], _ => rfl) fun d_is_form_for => ?_
    (case a => k_is); (case l => k_is); (case c => k_is); (case k => k_is)
    refine' CK.with_def KX "plain_form" (K41.topS 18) ["number", "many"] (CK.defF_mk KX G ?a ?l ?c ?k fun _ _ _ _ _ _ us hl => match us, hl with | [_, _], _ => rfl) fun d_plain_form => ?_
    (case a => k_is); (case l => k_is); (case c => k_is); (case k => k_is)
    refine' CK.with_def KX "form_value" (K41.topS 19) ["form", "point"] (CK.defF_mk KX G ?a ?l ?c ?k fun _ _ _ _ _ _ us hl => match us, hl with | [_, _], _ => rfl) fun d_form_value => ?_
    (case a => k_is); (case l => k_is); (case c => k_is); (case k => k_is)
    refine' CK.with_def KX "form_sum" (K41.topS 20) ["one", "other"] (CK.defF_mk KX G ?a ?l ?c ?k fun _ _ _ _ _ _ us hl => match us, hl with | [_, _], _ => rfl) fun d_form_sum => ?_
    (case a => k_is); (case l => k_is); (case c => k_is); (case k => k_is)
    refine' CK.with_def KX "form_times" (K41.topS 21) ["number", "form"] (CK.defF_mk KX G ?a ?l ?c ?k fun _ _ _ _ _ _ us hl => match us, hl with | [_, _], _ => rfl) fun d_form_times => ?_
    (case a => k_is); (case l => k_is); (case c => k_is); (case k => k_is)
    refine' CK.with_def KX "turned_word" (K41.topS 23) ["word", "by"] (CK.defF_mk KX G ?a ?l ?c ?k fun _ _ _ _ _ _ us hl => match us, hl with | [_, _], _ => rfl) fun d_turned_word => ?_
    (case a => k_is); (case l => k_is); (case c => k_is); (case k => k_is)
    refine' CK.with_def KX "stretch" (K41.topS 24) ["word", "start", "size"] (CK.defF_mk KX G ?a ?l ?c ?k fun _ _ _ _ _ _ us hl => match us, hl with | [_, _, _], _ => rfl) fun d_stretch => ?_
    (case a => k_is); (case l => k_is); (case c => k_is); (case k => k_is)
    refine' CK.with_def KX "alike_ahead" (K41.topS 25) ["one", "other"] (CK.defF_mk KX G ?a ?l ?c ?k fun _ _ _ _ _ _ us hl => match us, hl with | [_, _], _ => rfl) fun d_alike_ahead => ?_
    (case a => k_is); (case l => k_is); (case c => k_is); (case k => k_is)
    refine' CK.with_def KX "alike_behind" (K41.topS 26) ["one", "other"] (CK.defF_mk KX G ?a ?l ?c ?k fun _ _ _ _ _ _ us hl => match us, hl with | [_, _], _ => rfl) fun d_alike_behind => ?_
    (case a => k_is); (case l => k_is); (case c => k_is); (case k => k_is)
    refine' CK.with_def KX "border_sizes" (K41.topS 27) ["word"] (CK.defF_mk KX G ?a ?l ?c ?k fun _ _ _ _ _ _ us hl => match us, hl with | [_], _ => rfl) fun d_border_sizes => ?_
    (case a => k_is); (case l => k_is); (case c => k_is); (case k => k_is)
    refine' CK.with_def KX "root_size" (K41.topS 28) ["word"] (CK.defF_mk KX G ?a ?l ?c ?k fun _ _ _ _ _ _ us hl => match us, hl with | [_], _ => rfl) fun d_root_size => ?_
    (case a => k_is); (case l => k_is); (case c => k_is); (case k => k_is)
    refine' CK.with_def KX "is_piece" (K41.topS 33) ["many", "value"] (CK.defF_mk KX G ?a ?l ?c ?k fun _ _ _ _ _ _ us hl => match us, hl with | [_, _], _ => rfl) fun d_is_piece => ?_
    (case a => k_is); (case l => k_is); (case c => k_is); (case k => k_is)
    refine' CK.with_def KX "is_open_form" (K41.topS 34) ["form"] (CK.defF_mk KX G ?a ?l ?c ?k fun _ _ _ _ _ _ us hl => match us, hl with | [_], _ => rfl) fun d_is_open_form => ?_
    (case a => k_is); (case l => k_is); (case c => k_is); (case k => k_is)
    refine' CK.with_def KX "is_power" (K41.topS 35) ["piece"] (CK.defF_mk KX G ?a ?l ?c ?k fun _ _ _ _ _ _ us hl => match us, hl with | [_], _ => rfl) fun d_is_power => ?_
    (case a => k_is); (case l => k_is); (case c => k_is); (case k => k_is)
    refine' CK.with_def KX "fixed_piece" (K41.topS 36) ["word", "many"] (CK.defF_mk KX G ?a ?l ?c ?k fun _ _ _ _ _ _ us hl => match us, hl with | [_, _], _ => rfl) fun d_fixed_piece => ?_
    (case a => k_is); (case l => k_is); (case c => k_is); (case k => k_is)
    refine' CK.with_def KX "measure" (K41.topS 37) ["pieces"] (CK.defF_mk KX G ?a ?l ?c ?k fun _ _ _ _ _ _ us hl => match us, hl with | [_], _ => rfl) fun d_measure => ?_
    (case a => k_is); (case l => k_is); (case c => k_is); (case k => k_is)
    refine' CK.with_def KX "powers_in" (K41.topS 38) ["pieces"] (CK.defF_mk KX G ?a ?l ?c ?k fun _ _ _ _ _ _ us hl => match us, hl with | [_], _ => rfl) fun d_powers_in => ?_
    (case a => k_is); (case l => k_is); (case c => k_is); (case k => k_is)
    refine' CK.with_def KX "normal_pieces" (K41.topS 39) ["pieces"] (CK.defF_mk KX G ?a ?l ?c ?k fun _ _ _ _ _ _ us hl => match us, hl with | [_], _ => rfl) fun d_normal_pieces => ?_
    (case a => k_is); (case l => k_is); (case c => k_is); (case k => k_is)
    refine' CK.with_def KX "put_fixed" (K41.topS 40) ["ready", "word", "many"] (CK.defF_mk KX G ?a ?l ?c ?k fun _ _ _ _ _ _ us hl => match us, hl with | [_, _, _], _ => rfl) fun d_put_fixed => ?_
    (case a => k_is); (case l => k_is); (case c => k_is); (case k => k_is)
    refine' CK.with_def KX "put_power" (K41.topS 41) ["ready", "word", "form"] (CK.defF_mk KX G ?a ?l ?c ?k fun _ _ _ _ _ _ us hl => match us, hl with | [_, _, _], _ => rfl) fun d_put_power => ?_
    (case a => k_is); (case l => k_is); (case c => k_is); (case k => k_is)
    refine' CK.with_def KX "need_pieces" (K41.topS 43) ["many", "pieces"] (CK.defF_mk KX G ?a ?l ?c ?k fun _ _ _ _ _ _ us hl => match us, hl with | [_, _], _ => rfl) fun d_need_pieces => ?_
    (case a => k_is); (case l => k_is); (case c => k_is); (case k => k_is)
    refine' CK.with_def KX "need_measure" (K41.topS 44) ["total"] (CK.defF_mk KX G ?a ?l ?c ?k fun _ _ _ _ _ _ us hl => match us, hl with | [_], _ => rfl) fun d_need_measure => ?_
    (case a => k_is); (case l => k_is); (case c => k_is); (case k => k_is)
    refine' CK.with_def KX "normal" (K41.topS 45) ["many", "pieces"] (CK.defF_mk KX G ?a ?l ?c ?k fun _ _ _ _ _ _ us hl => match us, hl with | [_, _], _ => rfl) fun d_normal => ?_
    (case a => k_is); (case l => k_is); (case c => k_is); (case k => k_is)
    refine' CK.with_met k_OpenText "__init__" "OpenText.__init__" (L2.inClass (K41.topS 47) 0) ["self", "many", "pieces"] (CK.metF_mk k_OpenText _ _ _ _ ?a ?i ?l ?c ?k fun _ _ _ _ _ _ us hl => match us, hl with | [_, _, _], _ => rfl) fun d_OpenText___init__ => ?_
    (case a => k_is); (case i => k_is); (case l => k_is); (case c => k_is); (case k => k_is)
    refine' CK.with_met k_OpenText "__eq__" "OpenText.__eq__" (L2.inClass (K41.topS 47) 1) ["self", "other"] (CK.metF_mk k_OpenText _ _ _ _ ?a ?i ?l ?c ?k fun _ _ _ _ _ _ us hl => match us, hl with | [_, _], _ => rfl) fun d_OpenText___eq__ => ?_
    (case a => k_is); (case i => k_is); (case l => k_is); (case c => k_is); (case k => k_is)
    refine' CK.with_met k_OpenText "many" "OpenText.many" (L2.inClass (K41.topS 47) 2) ["self"] (CK.metF_mk k_OpenText _ _ _ _ ?a ?i ?l ?c ?k fun _ _ _ _ _ _ us hl => match us, hl with | [_], _ => rfl) fun d_OpenText_many => ?_
    (case a => k_is); (case i => k_is); (case l => k_is); (case c => k_is); (case k => k_is)
    refine' CK.with_met k_OpenText "pieces" "OpenText.pieces" (L2.inClass (K41.topS 47) 3) ["self"] (CK.metF_mk k_OpenText _ _ _ _ ?a ?i ?l ?c ?k fun _ _ _ _ _ _ us hl => match us, hl with | [_], _ => rfl) fun d_OpenText_pieces => ?_
    (case a => k_is); (case i => k_is); (case l => k_is); (case c => k_is); (case k => k_is)
    refine' CK.with_def KX "need_text" (K41.topS 48) ["value"] (CK.defF_mk KX G ?a ?l ?c ?k fun _ _ _ _ _ _ us hl => match us, hl with | [_], _ => rfl) fun d_need_text => ?_
    (case a => k_is); (case l => k_is); (case c => k_is); (case k => k_is)
    refine' CK.with_def KX "unknowns" (K41.topS 49) ["text"] (CK.defF_mk KX G ?a ?l ?c ?k fun _ _ _ _ _ _ us hl => match us, hl with | [_], _ => rfl) fun d_unknowns => ?_
    (case a => k_is); (case l => k_is); (case c => k_is); (case k => k_is)
    refine' CK.with_def KX "counted" (K41.topS 50) ["text", "point"] (CK.defF_mk KX G ?a ?l ?c ?k fun _ _ _ _ _ _ us hl => match us, hl with | [_, _], _ => rfl) fun d_counted => ?_
    (case a => k_is); (case l => k_is); (case c => k_is); (case k => k_is)
    refine' CK.with_def KX "word_at" (K41.topS 51) ["text", "point"] (CK.defF_mk KX G ?a ?l ?c ?k fun _ _ _ _ _ _ us hl => match us, hl with | [_, _], _ => rfl) fun d_word_at => ?_
    (case a => k_is); (case l => k_is); (case c => k_is); (case k => k_is)
    refine' CK.with_def KX "length" (K41.topS 52) ["text"] (CK.defF_mk KX G ?a ?l ?c ?k fun _ _ _ _ _ _ us hl => match us, hl with | [_], _ => rfl) fun d_length => ?_
    (case a => k_is); (case l => k_is); (case c => k_is); (case k => k_is)
    refine' CK.with_def KX "need_bound_text" (K41.topS 56) ["value"] (CK.defF_mk KX G ?a ?l ?c ?k fun _ _ _ _ _ _ us hl => match us, hl with | [_], _ => rfl) fun d_need_bound_text => ?_
    (case a => k_is); (case l => k_is); (case c => k_is); (case k => k_is)
    refine' CK.with_def KX "points_up_to" (K41.topS 57) ["form", "most"] (CK.defF_mk KX G ?a ?l ?c ?k fun _ _ _ _ _ _ us hl => match us, hl with | [_, _], _ => rfl) fun d_points_up_to => ?_
    (case a => k_is); (case l => k_is); (case c => k_is); (case k => k_is)
    refine' CK.with_def KX "shared_words" (K41.topS 58) ["texts", "most"] (CK.defF_mk KX G ?a ?l ?c ?k fun _ _ _ _ _ _ us hl => match us, hl with | [_, _], _ => rfl) fun d_shared_words => ?_
    (case a => k_is); (case l => k_is); (case c => k_is); (case k => k_is)
    refine' CK.with_def KX "words_up_to" (K41.topS 59) ["text", "most"] (CK.defF_mk KX G ?a ?l ?c ?k fun _ _ _ _ _ _ us hl => match us, hl with | [_, _], _ => rfl) fun d_words_up_to => ?_
    (case a => k_is); (case l => k_is); (case c => k_is); (case k => k_is)
    refine' CK.with_def KX "_law_hash" (K41.topS 61) ["_law_seed", "_law_index"] (CK.defF_mk KX G ?a ?l ?c ?k fun _ _ _ _ _ _ us hl => match us, hl with | [_, _], _ => rfl) fun d_law_hash => ?_
    (case a => k_is); (case l => k_is); (case c => k_is); (case k => k_is)
    refine' CK.with_def KX "_law_random" (K41.topS 62) ["_law_generator_here", "_law_bound"] (CK.defF_mk KX G ?a ?l ?c ?k fun _ _ _ _ _ _ us hl => match us, hl with | [_, _], _ => rfl) fun d_law_random => ?_
    (case a => k_is); (case l => k_is); (case c => k_is); (case k => k_is)
    refine' CK.with_def KX "_law_cell" (K41.topS 63) ["_law_script", "_law_index"] (CK.defF_mk KX G ?a ?l ?c ?k fun _ _ _ _ _ _ us hl => match us, hl with | [_, _], _ => rfl) fun d_law_cell => ?_
    (case a => k_is); (case l => k_is); (case c => k_is); (case k => k_is)
    refine' CK.with_def KX "_law_generator" (K41.topS 64) ["_law_script", "_law_index"] (CK.defF_mk KX G ?a ?l ?c ?k fun _ _ _ _ _ _ us hl => match us, hl with | [_, _], _ => rfl) fun d_law_generator => ?_
    (case a => k_is); (case l => k_is); (case c => k_is); (case k => k_is)
    refine' CK.with_def KX "_law_letters" (K41.topS 65) ["_law_generator_here"] (CK.defF_mk KX G ?a ?l ?c ?k fun _ _ _ _ _ _ us hl => match us, hl with | [_], _ => rfl) fun d_law_letters => ?_
    (case a => k_is); (case l => k_is); (case c => k_is); (case k => k_is)
    refine' CK.with_def KX "_law_word" (K41.topS 66) ["_law_generator_here", "_law_letters_here", "_law_least", "_law_most"] (CK.defF_mk KX G ?a ?l ?c ?k fun _ _ _ _ _ _ us hl => match us, hl with | [_, _, _, _], _ => rfl) fun d_law_word => ?_
    (case a => k_is); (case l => k_is); (case c => k_is); (case k => k_is)
    refine' CK.with_def KX "_law_plain" (K41.topS 67) ["_law_many", "_law_number"] (CK.defF_mk KX G ?a ?l ?c ?k fun _ _ _ _ _ _ us hl => match us, hl with | [_, _], _ => rfl) fun d_law_plain => ?_
    (case a => k_is); (case l => k_is); (case c => k_is); (case k => k_is)
    refine' CK.with_def KX "_law_form" (K41.topS 68) ["_law_generator_here", "_law_many", "_law_constant", "_law_most"] (CK.defF_mk KX G ?a ?l ?c ?k fun _ _ _ _ _ _ us hl => match us, hl with | [_, _, _, _], _ => rfl) fun d_law_form => ?_
    (case a => k_is); (case l => k_is); (case c => k_is); (case k => k_is)
    refine' CK.with_def KX "_law_piece" (K41.topS 69) ["_law_generator_here", "_law_many", "_law_letters_here", "_law_core", "_law_most"] (CK.defF_mk KX G ?a ?l ?c ?k fun _ _ _ _ _ _ us hl => match us, hl with | [_, _, _, _, _], _ => rfl) fun d_law_piece => ?_
    (case a => k_is); (case l => k_is); (case c => k_is); (case k => k_is)
    refine' CK.with_def KX "_law_value" (K41.topS 70) ["_law_form_here", "_law_point"] (CK.defF_mk KX G ?a ?l ?c ?k fun _ _ _ _ _ _ us hl => match us, hl with | [_, _], _ => rfl) fun d_law_value => ?_
    (case a => k_is); (case l => k_is); (case c => k_is); (case k => k_is)
    refine' CK.with_def KX "_law_write" (K41.topS 71) ["_law_pieces", "_law_point"] (CK.defF_mk KX G ?a ?l ?c ?k fun _ _ _ _ _ _ us hl => match us, hl with | [_, _], _ => rfl) fun d_law_write => ?_
    (case a => k_is); (case l => k_is); (case c => k_is); (case k => k_is)
    refine' CK.with_def KX "_law_standing" (K41.topS 72) ["_law_generator_here", "_law_many", "_law_letters_here", "_law_core"] (CK.defF_mk KX G ?a ?l ?c ?k fun _ _ _ _ _ _ us hl => match us, hl with | [_, _, _, _], _ => rfl) fun d_law_standing => ?_
    (case a => k_is); (case l => k_is); (case c => k_is); (case k => k_is)
    refine' CK.with_def KX "_law_box" (K41.topS 73) ["_law_many", "_law_most"] (CK.defF_mk KX G ?a ?l ?c ?k fun _ _ _ _ _ _ us hl => match us, hl with | [_, _], _ => rfl) fun d_law_box => ?_
    (case a => k_is); (case l => k_is); (case c => k_is); (case k => k_is)
    refine' CK.with_def KX "_law_words" (K41.topS 74) ["_law_many", "_law_pieces", "_law_most"] (CK.defF_mk KX G ?a ?l ?c ?k fun _ _ _ _ _ _ us hl => match us, hl with | [_, _, _], _ => rfl) fun d_law_words => ?_
    (case a => k_is); (case l => k_is); (case c => k_is); (case k => k_is)
    refine' CK.with_def KX "_law_due" (K41.topS 75) ["_law_told", "_law_most"] (CK.defF_mk KX G ?a ?l ?c ?k fun _ _ _ _ _ _ us hl => match us, hl with | [_, _], _ => rfl) fun d_law_due => ?_
    (case a => k_is); (case l => k_is); (case c => k_is); (case k => k_is)
    refine' CK.with_def KX "_law_right" (K41.topS 76) ["_law_generator_here"] (CK.defF_mk KX G ?a ?l ?c ?k fun _ _ _ _ _ _ us hl => match us, hl with | [_], _ => rfl) fun d_law_right => ?_
    (case a => k_is); (case l => k_is); (case c => k_is); (case k => k_is)
    refine' CK.with_def KX "law" (K41.topS 77) ["_law_script"] (CK.defF_mk KX G ?a ?l ?c ?k fun _ _ _ _ _ _ us hl => match us, hl with | [_], _ => rfl) fun d_law => ?_
    (case a => k_is); (case l => k_is); (case c => k_is); (case k => k_is)
    have m_all : mg "all" = none := by
      refine' PySem.W.mg_none_of KX G ?z
      (case z => k_is)
    have m_any : mg "any" = none := by
      refine' PySem.W.mg_none_of KX G ?z
      (case z => k_is)
    have m_bool : mg "bool" = none := by
      refine' PySem.W.mg_none_of KX G ?z
      (case z => k_is)
    have m_int : mg "int" = none := by
      refine' PySem.W.mg_none_of KX G ?z
      (case z => k_is)
    have m_isinstance : mg "isinstance" = none := by
      refine' PySem.W.mg_none_of KX G ?z
      (case z => k_is)
    have m_len : mg "len" = none := by
      refine' PySem.W.mg_none_of KX G ?z
      (case z => k_is)
    have m_list : mg "list" = none := by
      refine' PySem.W.mg_none_of KX G ?z
      (case z => k_is)
    have m_max : mg "max" = none := by
      refine' PySem.W.mg_none_of KX G ?z
      (case z => k_is)
    have m_min : mg "min" = none := by
      refine' PySem.W.mg_none_of KX G ?z
      (case z => k_is)
    have m_range : mg "range" = none := by
      refine' PySem.W.mg_none_of KX G ?z
      (case z => k_is)
    have m_sorted : mg "sorted" = none := by
      refine' PySem.W.mg_none_of KX G ?z
      (case z => k_is)
    have m_str : mg "str" = none := by
      refine' PySem.W.mg_none_of KX G ?z
      (case z => k_is)
    have m_sum : mg "sum" = none := by
      refine' PySem.W.mg_none_of KX G ?z
      (case z => k_is)
    have m_tuple : mg "tuple" = none := by
      refine' PySem.W.mg_none_of KX G ?z
      (case z => k_is)
    have m_zip : mg "zip" = none := by
      refine' PySem.W.mg_none_of KX G ?z
      (case z => k_is)
    have k_MOST_LETTERS_SHARED : ∃ u, mg "MOST_LETTERS_SHARED" = some u ∧ L2.RelV (.int 40) u := by
      refine' ⟨?u_MOST_LETTERS_SHARED, PySem.W.mg_of KX G ?z_MOST_LETTERS_SHARED, ?r_MOST_LETTERS_SHARED⟩
      (case z_MOST_LETTERS_SHARED => k_is)
      all_goals exact ⟨_, rfl⟩
    have k_MOST_MEASURE : ∃ u, mg "MOST_MEASURE" = some u ∧ L2.RelV (.int 2000) u := by
      refine' ⟨?u_MOST_MEASURE, PySem.W.mg_of KX G ?z_MOST_MEASURE, ?r_MOST_MEASURE⟩
      (case z_MOST_MEASURE => k_is)
      all_goals exact ⟨_, rfl⟩
    have k_MOST_PIECES : ∃ u, mg "MOST_PIECES" = some u ∧ L2.RelV (.int 5000) u := by
      refine' ⟨?u_MOST_PIECES, PySem.W.mg_of KX G ?z_MOST_PIECES, ?r_MOST_PIECES⟩
      (case z_MOST_PIECES => k_is)
      all_goals exact ⟨_, rfl⟩
    have k_MOST_PIECE_LETTERS : ∃ u, mg "MOST_PIECE_LETTERS" = some u ∧ L2.RelV (.int 2000) u := by
      refine' ⟨?u_MOST_PIECE_LETTERS, PySem.W.mg_of KX G ?z_MOST_PIECE_LETTERS, ?r_MOST_PIECE_LETTERS⟩
      (case z_MOST_PIECE_LETTERS => k_is)
      all_goals exact ⟨_, rfl⟩
    have k_MOST_TEXTS : ∃ u, mg "MOST_TEXTS" = some u ∧ L2.RelV (.int 4) u := by
      refine' ⟨?u_MOST_TEXTS, PySem.W.mg_of KX G ?z_MOST_TEXTS, ?r_MOST_TEXTS⟩
      (case z_MOST_TEXTS => k_is)
      all_goals exact ⟨_, rfl⟩
    have k_MOST_UNKNOWNS : ∃ u, mg "MOST_UNKNOWNS" = some u ∧ L2.RelV (.int 3) u := by
      refine' ⟨?u_MOST_UNKNOWNS, PySem.W.mg_of KX G ?z_MOST_UNKNOWNS, ?r_MOST_UNKNOWNS⟩
      (case z_MOST_UNKNOWNS => k_is)
      all_goals exact ⟨_, rfl⟩
    have T : K41.Txt _ mg _ := ⟨k_OpenText, f_many, f_pieces, d_is_whole, d_is_count, d_is_within, d_is_lettered, d_need_within, d_need_many, d_is_form_for, d_plain_form, d_form_value, d_form_sum, d_form_times, d_turned_word, d_stretch, d_alike_ahead, d_alike_behind, d_border_sizes, d_root_size, d_is_piece, d_is_open_form, d_is_power, d_fixed_piece, d_measure, d_powers_in, d_normal_pieces, d_put_fixed, d_put_power, d_need_pieces, d_need_measure, d_normal, d_OpenText___init__, d_OpenText___eq__, d_OpenText_many, d_OpenText_pieces, d_need_text, d_unknowns, d_counted, d_word_at, d_length, d_need_bound_text, d_points_up_to, d_shared_words, d_words_up_to, d_law_hash, d_law_random, d_law_cell, d_law_generator, d_law_letters, d_law_word, d_law_plain, d_law_form, d_law_piece, d_law_value, d_law_write, d_law_standing, d_law_box, d_law_words, d_law_due, d_law_right, d_law, m_all, m_any, m_bool, m_int, m_isinstance, m_len, m_list, m_max, m_min, m_range, m_sorted, m_str, m_sum, m_tuple, m_zip, k_MOST_LETTERS_SHARED, k_MOST_MEASURE, k_MOST_PIECES, k_MOST_PIECE_LETTERS, k_MOST_TEXTS, k_MOST_UNKNOWNS⟩
    exact K41.law_end T hmg
