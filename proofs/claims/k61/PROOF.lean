import PyProof.Rows.All
import Wide.All
import OpenK.AllK
import Wide.FinOn
import HandS.ForMost
import HandS.Wide
import HandS.WideBits
import HandS.TupAny
import HandS.TupMul
import HandS.IsInst
import HandS.Walk
import HandS.Style
import KE.GoesZip
import KE.GoesMore
import KE.GoesEnum
import HandS.Codes
import HandS.FStrTup
import PyProof.ListMulRoad
import PyProof.FactsAll.tuple_2
import PyProof.ReprLoop
import PyProof.ReprHeadsTuple
import PyProof.StrHeap
import PyProof.CallStr
import HandS.StrMore
import HandS.SortInts
import PyProof.Rows.StrRev
import PyProof.StrOps2
import KE.DataAny
import PyProof.ReprRoads
import HandS.Ends
import HandS.Defaults
import HandS.MakeKwOnly
import HandS.MakeKw
import HandS.Records
import HandS.SortKw
import KE.SortData
import HandS.More
import KE.SortKeyHeap
import PyProof.MinMaxWalk
import PyProof.WalkInts
import KE.KMinKey
import PyProof.Rows.RuleB_mul
import KE.DataMinMax
import KE.DatumMoreOrd
import KE.GoesEnumKw
import HandS.RevRange
import PySem.Challenge.RW_countscribe_k61_least_plain_writers
import HandS.Exc
import HandS.ExcOwn
import HandS.ExcInit
import HandS.ExcField
import HandS.ExcIs
import HandS.WordsExc
import HandS.TryOnly
import KE.KExcIs
import HandS.OwnEq
import PyProof.ReprLen
import PyProof.StrLawsRepr
set_option Elab.async false
set_option linter.all false
set_option maxRecDepth 100000
set_option maxHeartbeats 2000000
/-! rules that the layer lacks: a power of great numbers, zip over a list and a tuple in any mix -/
namespace CK
open PySem PySem.Spec PyProof.Rows L2

section
variable {X : Cx}
theorem op_powB : OpR X (binaryOp .Pow) (rI (fun i j => 0 ≤ j ∧ (Builtin.Int.intBits i : Int) * j ≤ 2 ^ 27) fun i j => .int (i ^ j.toNat)) :=
  opI fun _ _ _ _ _ _ _ c q => pow_int c.1 c.2 q
end

/-- a list, or a tuple -/
inductive Kd | L | T
def SqB (K : PySem.W.Frag) : Kd → Hp → Addr → List V → Prop
  | .L, H, a, xs => SqL K H a xs
  | .T, H, a, xs => SqT K H a xs
def HasB : Kd → Heap → Addr → Array Value → Prop
  | .L, h, a, xs => h.IsList a xs
  | .T, h, a, xs => h.IsTuple a xs
def IterB : Kd → Heap → Addr → Addr → Nat → Prop
  | .L, h, it, a, i => h.IsListIter it a i
  | .T, h, it, a, i => h.IsTupleIter it a i
def objB : Kd → Addr → Obj
  | .L, a => { cls := .type "list_iterator", data := .fields #[.ref a, .int 0 0] }
  | .T, a => { cls := .type "tuple_iterator", data := .fields #[.ref a, .int 0 0] }
theorem drawsB (k : Kd) {prog : Program} {w : World} {A : Around} (hh : A.handled = none) (it t : Addr) (ne : t ≠ it) (zs : Array Value) :
    Draws prog w A it [it, t] zs.size (fun i v => zs[i]? = some v) (fun i h => IterB k h it t i ∧ HasB k h t zs) := by
  cases k with
  | L => exact Draws.list hh it t ne zs
  | T => exact Draws.tuple hh it t ne zs
theorem beginsB (k : Kd) (t : Addr) (zs : Array Value) : Begins (.ref t) (objB k t) fun h => HasB k h t zs := by
  cases k with
  | L => exact begins_list t zs
  | T => exact begins_tuple t zs
theorem IterB.at {k : Kd} {h h' : Heap} {it a : Addr} {i : Nat} (x : IterB k h it a i) (e : ∀ o, h.get? it = some o → h'.get? it = some o) : IterB k h' it a i := by
  cases k with
  | L => exact Heap.IsListIter.at x e
  | T => exact Heap.IsTupleIter.at x e
theorem IterB.there {k : Kd} {h : Heap} {it a : Addr} {i : Nat} (x : IterB k h it a i) : ∃ o, h.get? it = some o ∧ ∀ v, o.data ≠ .cell v := by
  cases k with
  | L =>
    obtain ⟨o, e, _, d⟩ := x
    exact ⟨o, e, fun v z => by rw [d] at z; cases z⟩
  | T =>
    obtain ⟨o, e, _, d⟩ := x
    exact ⟨o, e, fun v z => by rw [d] at z; cases z⟩
theorem IterB.new {k : Kd} {h : Heap} {it a : Addr} (e : h.get? it = some (objB k a)) : IterB k h it a 0 := by
  cases k with
  | L => exact ⟨_, e, rfl, rfl⟩
  | T => exact ⟨_, e, rfl, rfl⟩
theorem SqB.get {X : Cx} {pins : List (Addr × Obj)} {σ : L2.St} {H : Hp} {s : Shared} {k : Kd} {a : Addr} {xs : List V} (I : Inv X pins σ H s) (h : SqB X.K k H a xs) :
    ∃ zs : List Value, Vals xs zs ∧ HasB k s.heap a zs.toArray ∧ a < s.heap.objs.size := by
  cases k with
  | L =>
    obtain ⟨zs, r, p, _⟩ := I.list h
    exact ⟨zs, r, p.isList, p.lt⟩
  | T =>
    obtain ⟨zs, r, p, _⟩ := I.tuple h
    exact ⟨zs, r, p, p.lt⟩
theorem SqB.inj {X : Cx} {pins : List (Addr × Obj)} {σ : L2.St} {H : Hp} {s : Shared} {k : Kd} {a : Addr} {xs ys : List V} (I : Inv X pins σ H s) (h : SqB X.K k H a xs) (h' : SqB X.K k H a ys) : xs = ys := by
  cases k with
  | L => exact I.list_inj h h'
  | T => exact I.tuple_inj h h'

/-- both as they stand at each turn, the items in new pairs -/
def ItB (K : PySem.W.Frag) (k k' : Kd) (a b : Addr) : It :=
  ⟨fun i H => ∃ (xs ys : List V) (x y : V), SqB K k H a xs ∧ SqB K k' H b ys ∧ xs[i]? = some x ∧ ys[i]? = some y,
    fun i H v H' => ∃ T x y, v = .ref T ∧ H T = none ∧ H' = upd H T (.tup [x, y]) ∧ (∀ xs, SqB K k H a xs → xs[i]? = some x) ∧ ∀ ys, SqB K k' H b ys → ys[i]? = some y,
    fun i H => ∃ xs ys : List V, SqB K k H a xs ∧ SqB K k' H b ys ∧ i ≤ xs.length ∧ i ≤ ys.length ∧ (i = xs.length ∨ i = ys.length)⟩
theorem five {z TI TO i1 i2 c : Addr} (h : c ∈ [z, TI, TO, i1, i2]) : c = z ∨ c = TI ∨ c = TO ∨ c = i1 ∨ c = i2 := by simpa using h
theorem turnB {P : Program} {w : World} {K : PySem.W.Frag} {elts : List Expr} {kk : Nat} {tp : Pos} {k k' : Kd} {a b z TI TO i1 i2 : Addr} (S : ZipSep2 z TI TO i1 i2 [i1, a] [i2, b]) (na : a ≠ i1) (nb : b ≠ i2) :
    Turn P w K (.Tuple elts kk tp) (ItB K k k' a b) [z, TI, TO, i1, i2] z
      (fun i h => IsZip h z TI TO .none ∧ IsTupOf2 h TI (.ref i1) (.ref i2) ∧ (∃ x y, IsTupOf2 h TO x y) ∧ IterB k h i1 a i ∧ IterB k' h i2 b i) where
  mem := by simp
  obj := fun i h st c hc => by
    obtain ⟨hz, hI, ⟨x, y, hO⟩, h1, h2⟩ := st
    rcases five hc with q | q | q | q | q <;> subst q
    · exact ⟨_, hz, fun v q => nomatch q⟩
    · exact ⟨_, hI, fun v q => nomatch q⟩
    · exact ⟨_, hO, fun v q => nomatch q⟩
    · exact h1.there
    · exact h2.there
  keep := fun i h h' st q => by
    obtain ⟨hz, hI, ⟨x, y, hO⟩, h1, h2⟩ := st
    exact ⟨q z (by simp) _ hz, q TI (by simp) _ hI, ⟨x, y, q TO (by simp) _ hO⟩, h1.at (q i1 (by simp)), h2.at (q i2 (by simp))⟩
  item := by
    intro X hP hw hK hc i pins s σ H E I hf st hg
    subst hP hw hK
    obtain ⟨hz, hI, ⟨x0, y0, hO⟩, h1, h2⟩ := st
    obtain ⟨xs, ys, x, y, qx, qy, hx, hy⟩ := hg
    obtain ⟨zs, r1, p1, la⟩ := SqB.get I qx
    obtain ⟨zs', r2, p2, lb⟩ := SqB.get I qy
    obtain ⟨u, hu, ru⟩ := r1.get hx
    obtain ⟨u2, hu2, ru2⟩ := r2.get hy
    have z0 : z < s.heap.objs.size := Heap.lt_size hz
    have l1 : i < zs.toArray.size := by
      obtain ⟨q, _⟩ := List.getElem?_eq_some_iff.mp hu
      simpa using q
    have l2 : i < zs'.toArray.size := by
      obtain ⟨q, _⟩ := List.getElem?_eq_some_iff.mp hu2
      simpa using q
    have hh : X.A.in1.handled = none := I.ok.hd hc
    refine wpAny_pyNext_zipD2_item S (drawsB k hh i1 a na zs.toArray) (drawsB k' hh i2 b nb zs'.toArray) hz hI hO ⟨h1, p1⟩ ⟨h2, p2⟩ l1 l2 fun x1 x2 h' tk e1 e2 z' TO' t1 t2 hT hsz hk => ?_
    have e1' : x1 = u := by
      have q : zs[i]? = some x1 := by simpa using e1
      exact Option.some.inj (q.symm.trans hu)
    have e2' : x2 = u2 := by
      have q : zs'[i]? = some x2 := by simpa using e2
      exact Option.some.inj (q.symm.trans hu2)
    subst e1' e2'
    refine ⟨_, rfl, wpAny_letOwnedTupleGo_zip (s := { s with heap := h', toks := tk }) z' fun h'' z'' sb => ?_⟩
    have hT2 : h''.get? s.heap.objs.size = some { cls := .type "tuple", data := .seq #[x1, x2] } := (sb.2 _ (Nat.ne_of_gt z0)).trans hT
    have new : ObjOk X.prog X.w (upd H s.heap.objs.size (.tup [x, y])) h'' s.heap.objs.size (.tup [x, y]) :=
      ⟨by show 2 ≤ sizeLine; decide, [x1, x2], .cons ru (.cons ru2 .nil), ⟨_, hT2, rfl, _, rfl⟩⟩
    have I1 : Inv X pins σ (upd H s.heap.objs.size (.tup [x, y])) { s with heap := h'', toks := tk } :=
      I.turnedNew (ch := [z, TI, TO, i1, i2]) (fun c o hb q => by
        have n : c ≠ z ∧ c ≠ TI ∧ c ≠ TO ∧ c ≠ i1 ∧ c ≠ i2 := by simpa using hb
        exact (sb.2 c n.1).trans (hk c o n.1 n.2.2.1 n.2.2.2.1 n.2.2.2.2 q)) hf (Nat.le_refl _) new
    refine ⟨.ref s.heap.objs.size, _, I1, rfl, ⟨_, x, y, rfl, I.hok.fresh (Nat.le_refl _), rfl, fun l hl => by rw [SqB.inj I hl qx]; exact hx, fun l hl => by rw [SqB.inj I hl qy]; exact hy⟩, ⟨z'', ?_, ⟨x1, x2, ?_⟩, ?_, ?_⟩, fun c hcm => ?_⟩
    · exact (sb.2 _ S.TIz).trans (hk _ _ S.TIz S.TITO S.TIi1 S.TIi2 hI)
    · exact (sb.2 _ S.TOz).trans TO'
    · exact t1.1.at fun o q => (sb.2 _ S.zi1.symm).trans q
    · exact t2.1.at fun o q => (sb.2 _ S.zi2.symm).trans q
    · have lt : c < s.heap.objs.size := by
        rcases five hcm with q | q | q | q | q <;> subst q
        · exact z0
        · exact Heap.lt_size hI
        · exact Heap.lt_size hO
        · obtain ⟨_, e, _⟩ := h1.there
          exact Heap.lt_size e
        · obtain ⟨_, e, _⟩ := h2.there
          exact Heap.lt_size e
      rw [upd_ne (Nat.ne_of_lt lt)]
      exact (hf c hcm).1
  done := by
    intro X hP hw hK hc i pins s σ H E I hf st hg
    subst hP hw hK
    obtain ⟨hz, hI, ⟨x0, y0, hO⟩, h1, h2⟩ := st
    obtain ⟨xs, ys, qx, qy, m1, m2, hend⟩ := hg
    obtain ⟨zs, r1, p1, la⟩ := SqB.get I qx
    obtain ⟨zs', r2, p2, lb⟩ := SqB.get I qy
    have e1 : zs.toArray.size = xs.length := by rw [List.size_toArray]; exact r1.length.symm
    have e2 : zs'.toArray.size = ys.length := by rw [List.size_toArray]; exact r2.length.symm
    have hh : X.A.in1.handled = none := I.ok.hd hc
    exact wpAny_pyNext_zipD2_end S (drawsB k hh i1 a na zs.toArray) (drawsB k' hh i2 b nb zs'.toArray) hz hI hO ⟨h1, p1⟩ ⟨h2, p2⟩ (by omega) (by omega) (by omega) fun h' tk hk =>
      ⟨rfl, I.turnedL (ch := [z, TI, TO, i1, i2]) (fun c o hb q => by
        have n : c ≠ z ∧ c ≠ TI ∧ c ≠ TO ∧ c ≠ i1 ∧ c ≠ i2 := by simpa using hb
        exact hk c o n.1 n.2.2.1 n.2.2.2.1 n.2.2.2.2 q) hf⟩
  self := fun A i s Q E st h => wpAny_pyIter_zip st.1 h

def iZipB (K : PySem.W.Frag) (ta : TA) : TI := fun σ H R => ta σ H fun vs H1 => ∃ (k k' : Kd) (a b : Addr) (xs ys : List V), vs = [.ref a, .ref b] ∧ SqB K k H1 a xs ∧ SqB K k' H1 b ys ∧ R (ItB K k k' a b) H1
theorem pi_zipB {X : Cx} {K : PySem.W.Frag} {e e2 : Expr} {ta : TA} {p pos tp : Pos} {elts : List Expr} {kk : Nat} (hK : X.K = K) (hg : Gl X "zip") (hm : X.mg "zip" = none) (ha : PA X [e, e2] ta)
    (hs : starEach [e, e2] X.env = (false, eval e X.env) :: starEach [e2] X.env := by rfl) (hpl : (backTo pos (starEach [e2] X.env)).any (·.1) = false := by rfl) :
    PI X (.Tuple elts kk tp) (.Call (.Name "zip" p) [e, e2] [] pos) (iZipB K ta) := by
  subst hK
  refine ⟨fun pins s σ H R I h => Call_ (ld_blt I hg hm PyProof.Rows.boot_zip (callWith_type1 (thn (ha.run pos pins s σ H _ I h) fun us s1 q => ?_) hs hpl))⟩
  obtain ⟨vs, H1, I1, r1, k, k', a, b, xs, ys, rfl, qx, qy, q⟩ := q
  cases r1 with
  | cons r rr =>
  cases rr with
  | cons r' rr =>
  cases rr
  cases r
  cases r'
  obtain ⟨zs, _, p1, la⟩ := SqB.get I1 qx
  obtain ⟨zs', _, p2, lb⟩ := SqB.get I1 qy
  refine zip_begins2 (beginsB k a zs.toArray) (beginsB k' b zs'.toArray) p1 p2 fun h' hz hI hO o1 o2 hsz hk => wpAny_pyIter_zip hz ?_
  have S := zip_sep2 (N := s1.heap.objs.size) (fp1 := [a]) (fp2 := [b]) (fun c hc => by rw [List.mem_singleton.mp hc]; exact la) (fun c hc => by rw [List.mem_singleton.mp hc]; exact lb)
  refine ⟨s1.heap.objs.size + 4, _, _, _, H1, rfl, I1.kept (t' := s1.toks) hk, turnB S (Nat.ne_of_lt la) (Nat.ne_of_lt (Nat.lt_succ_of_lt lb)), ⟨hz, hI, ⟨_, _, hO⟩, .new o1, .new o2⟩, fun c hc => ?_, q⟩
  have le : s1.heap.objs.size ≤ c := by
    rcases five hc with z | z | z | z | z <;> subst z <;> first | exact Nat.le_add_right _ _ | exact Nat.le_refl _
  exact I1.fpOk le (I1.hok.fresh le)
theorem walkB {K : PySem.W.Frag} {k k' : Kd} {a b : Addr} {xs ys : List V} (hl : xs.length = ys.length) :
    Walk (ItB K k k' a b) xs.length (fun H => SqB K k H a xs ∧ SqB K k' H b ys) (YPair (fun i => xs[i]?) (fun i => ys[i]?)) := by
  refine ⟨fun i H hi q => ?_, fun H q => ⟨xs, ys, q.1, q.2, Nat.le_refl _, Nat.le_of_eq hl, .inl rfl⟩, fun i H v H' _ q y => ?_⟩
  · have h2 : i < ys.length := by omega
    exact ⟨xs, ys, xs[i], ys[i], q.1, q.2, by simp [hi], by simp [h2]⟩
  · obtain ⟨T, x, z, h1, h2, h3, h4, h5⟩ := y
    exact ⟨T, x, z, h1, h2, h3, h4 xs q.1, h5 ys q.2⟩
end CK

set_option Elab.async false
set_option linter.all false
set_option maxRecDepth 100000
set_option maxHeartbeats 4000000
namespace CK
open PySem PySem.Spec PyProof.Rows L2
theorem mulFill : fillsNumberSlot (.type "tuple") "mul" = pure false :=
  PySem.fillsNumberSlot_seq (r := some (.builtin "tuple.__rmul__")) (id := "tuple.__mul__") PySem.F.slot_tuple_mul.lookup (by decide +kernel)
    PySem.F.slot_tuple_rmul.lookup (by decide +kernel)
theorem mulSeq : seqRepeat? (.type "tuple") = pure (some (.builtin "tuple.__mul__")) := by
  unfold seqRepeat?
  rw [PySem.seqSlot_of (name := "__mul__") (id := "tuple.__mul__") (T := "tuple") PySem.F.slot_tuple_mul.lookup (by decide +kernel),
    PySem.seqSlot_of (name := "__rmul__") (id := "tuple.__rmul__") (T := "tuple") PySem.F.slot_tuple_rmul.lookup (by decide +kernel)]
  rfl
theorem rmulNo (a : Int) (t : Tok) (l : Addr) (zs : Array Value) (n : Nat) (dd : Option Addr) (sl : Array (Option Value)) :
    Meets (Builtin.«int.__rmul__» ⟨[.int a t, .ref l], []⟩) (fun _ R s =>
      s.heap.get? l = some { cls := .type "tuple", dict := dd, data := .seq zs n, slots := sl } ∧ R (.ok (.ret Value.notImplemented)) s) := by
  refine Meets.of_wp fun prog w A R s h => ?_
  obtain ⟨hq, g, d, tk, o2⟩ := s
  obtain ⟨hl, h⟩ := h
  wp_walk using wpAny_loadPart' hl
  exact ⟨_, rfl, h⟩
/-- one item, no times: a new empty tuple -/
theorem mul0 (l : Addr) (v : Value) (n : Nat) (dd : Option Addr) (sl : Array (Option Value)) (u : Tok) :
    Meets (Builtin.«tuple.__mul__» ⟨[.ref l, .int 0 u], []⟩) (fun _ R s =>
      s.heap.get? l = some { cls := .type "tuple", dict := dd, data := .seq #[v] n, slots := sl } ∧
      R (.ok (.ret (Value.ref s.heap.objs.size))) { s with heap := s.heap.push { cls := Value.type "tuple", data := Data.seq #[] } }) := by
  refine Meets.of_wp fun prog w A R s h => ?_
  obtain ⟨hq, g, d, tk, o2⟩ := s
  obtain ⟨hl, h⟩ := h
  have f1 := AutoSeq1.idx_int
  wp_walk using wpAny_loadPart' hl
  exact ⟨_, rfl, h⟩
/-- one item, once: the tuple itself -/
theorem mul1 (l : Addr) (v : Value) (n : Nat) (dd : Option Addr) (sl : Array (Option Value)) (u : Tok) :
    Meets (Builtin.«tuple.__mul__» ⟨[.ref l, .int 1 u], []⟩) (fun _ R s =>
      s.heap.get? l = some { cls := .type "tuple", dict := dd, data := .seq #[v] n, slots := sl } ∧ R (.ok (.ret (Value.ref l))) s) := by
  refine Meets.of_wp fun prog w A R s h => ?_
  obtain ⟨hq, g, d, tk, o2⟩ := s
  obtain ⟨hl, h⟩ := h
  have f1 := AutoSeq1.idx_int
  have f2 : (⟨hq, g, d, tk, o2⟩ : Shared).TypeIs (.ref l) "tuple" := ⟨_, hl, rfl⟩
  wp_walk using wpAny_loadPart' hl, wpAny_typeOf f2
  exact ⟨_, rfl, h⟩
section
variable {X : Cx}
theorem sameNew {H : Hp} {p : Addr} {o : HO} (h : H p = none) : Same H (upd H p o) := fun b z e => by
  rw [upd_ne (ne_of_none e h)]
  exact e
/-- one item, k times: 0 or 1 -/
def rRep01 : R2 := fun x y H Q => ∃ (l : Addr) (k : Int) (v : V), x = .ref l ∧ y = .int k ∧ H l = some (.tup [v]) ∧ (k = 0 ∨ k = 1) ∧
  ∀ p H', Same H H' → H' p = some (.tup (List.replicate k.toNat v)) → Q (.ref p) H'
theorem op_rep01 : OpR X (binaryOp .Mult) rRep01 := by
  intro pins s σ H x y xv yv Q I rx ry h
  obtain ⟨l, k, v, rfl, rfl, hl, hk, q⟩ := h
  cases rx
  obtain ⟨t, rfl⟩ := ry
  obtain ⟨zs, r, ⟨⟨cl, dd, da, sl⟩, ho, hc, n, hd⟩, hs⟩ := I.tuple (.inl (.inl hl) : SqT X.K H l [v])
  simp only at hc hd
  subst hc hd
  cases r with
  | cons r1 r2 =>
  cases r2
  rename_i u
  rcases hk with e | e <;> subst e
  · refine wpAny_binaryOp_repeat_ref (T := "tuple") (U := "int") (by decide) ⟨_, ho, rfl⟩ (fun s' => typeIs_int s' 0 t) mulFill F.fills_int_mul F.slot_int_rmul mulSeq F.slot_int_index.lookup
      (call_meets F.slot_int_rmul (typeIs_int s 0 t) F.entry_int_rmul (F.args_int_rmul_2 _ _) (rmulNo 0 t l _ n dd sl)
        ⟨ho, rfl, ⟨_, ho, rfl⟩, call_meets F.slot_tuple_mul ⟨_, ho, rfl⟩ F.entry_tuple_mul (F.args_tuple_mul_2 _ _) (mul0 l _ n dd sl t) ⟨ho, ?_⟩⟩)
    have hn : H s.heap.objs.size = none := I.hok.fresh (Nat.le_refl _)
    refine ⟨.ref s.heap.objs.size, _, I.laid (t' := s.toks) (o := .tup []) (fun b ob q => Heap.get?_push_of_some _ q) (Nat.le_refl _) ?_, rfl, q _ _ (sameNew hn) upd_same⟩
    exact ⟨Nat.zero_le _, [], .nil, IsTup.new _ _⟩
  · exact wpAny_binaryOp_repeat_ref (T := "tuple") (U := "int") (by decide) ⟨_, ho, rfl⟩ (fun s' => typeIs_int s' 1 t) mulFill F.fills_int_mul F.slot_int_rmul mulSeq F.slot_int_index.lookup
      (call_meets F.slot_int_rmul (typeIs_int s 1 t) F.entry_int_rmul (F.args_int_rmul_2 _ _) (rmulNo 1 t l _ n dd sl)
        ⟨ho, rfl, ⟨_, ho, rfl⟩, call_meets F.slot_tuple_mul ⟨_, ho, rfl⟩ F.entry_tuple_mul (F.args_tuple_mul_2 _ _) (mul1 l _ n dd sl t)
          ⟨ho, ⟨.ref l, H, I, rfl, q l H (Same.refl H) hl⟩⟩⟩)
/-! ### str(tuple of whole numbers): some text -/
theorem reprInts {prog : Program} {w : World} : ∀ {ns : List Int} {zs : List Value}, Vals (ns.map V.int) zs → (∀ n ∈ ns, n.natAbs.log2 < 1920) → ReprAll prog w zs (ns.map fun n => (toString n : Str))
  | [], _, r, _ => by
    cases r
    exact .nil
  | n :: l, _, r, h => by
    cases r with
    | cons r1 r2 =>
    obtain ⟨t, rfl⟩ := r1
    exact .cons (ReprIs.int t (h n List.mem_cons_self)) (reprInts r2 fun z hz => h z (List.mem_cons_of_mem _ hz))
end
end CK
namespace CK
open PySem PySem.Spec PyProof.Rows L2
section
variable {X : Cx}
/-- one item, k times -/
def rRepOne (K : PySem.W.Frag) : R2 := fun x y H Q => ∃ (l : Addr) (k : Int) (v : V), x = .ref l ∧ y = .int k ∧ H l = some (.tup [v]) ∧ 0 ≤ k ∧ k ≤ 1000 ∧
  ∀ p H', Same H H' → H' p = some (.tup (List.replicate k.toNat v)) → Q (.ref p) H'
theorem flat_rep {α : Type} (v : α) : ∀ n : Nat, (List.replicate n [v]).flatten = List.replicate n v
  | 0 => rfl
  | n + 1 => by rw [List.replicate_succ, List.flatten_cons, flat_rep v n, List.replicate_succ]; rfl
theorem op_repOne : OpR X (binaryOp .Mult) (rRepOne X.K) := by
  intro pins s σ H x y xv yv Q I rx ry h
  obtain ⟨l, k, v, rfl, rfl, hl, h0, h1, q⟩ := h
  by_cases hk : k = 0 ∨ k = 1
  · exact op_rep01 pins s σ H _ _ xv yv Q I rx ry ⟨l, k, v, rfl, rfl, hl, hk, q⟩
  · refine op_repT pins s σ H _ _ xv yv Q I rx ry ⟨l, k, [v], rfl, rfl, .inl (.inl hl), List.cons_ne_nil _ _, by omega, h1, by show 1 ≤ 1000; omega, fun p hp => q p _ (sameNew hp) ?_⟩
    rw [upd_same, flat_rep]
/-- str of a tuple of whole numbers: some text -/
theorem call_str_tup {k : Nat} (hr : Room k X.A) : CallR X (.type "str") (fun xs H Q => ∃ (a : Addr) (ns : List Int), xs = [.ref a] ∧ H a = some (.tup (ns.map V.int)) ∧ ns.length ≤ 100 ∧ (∀ n ∈ ns, n.natAbs.log2 < 1920) ∧ ∀ m : Str, Q (.str m) H) := by
  intro pins s σ H xs us Q I r h
  obtain ⟨a, ns, rfl, ha, hl, hn, q⟩ := h
  obtain ⟨u, rfl, rx⟩ := vals1 r
  cases rx
  obtain ⟨zs, rv, ⟨o, ho, hc, n, hd⟩, hz⟩ := I.tuple (.inl (.inl ha) : SqT X.K H a _)
  have hu := hr.units
  have hT : ReprAll X.prog X.w zs.toArray.toList (ns.map fun n => (toString n : Str)) := by simpa using reprInts rv hn
  have hp : ∀ l : List Int, (∀ n ∈ l, n.natAbs.log2 < 1920) → piled (l.map fun n => (toString n : Str)) ≤ l.length * 1923 := by
    intro l
    induction l with
    | nil => intro _; exact Nat.le_refl _
    | cons z l ih =>
      intro h
      have a1 := int_text_length_le (a := z) (k := 1920) (by omega) (h z List.mem_cons_self)
      have a2 := ih fun n hn => h n (List.mem_cons_of_mem _ hn)
      rw [List.map_cons, piled_cons, List.length_cons]
      have a3 : ((toString z : Str)).length = (toString z).length := PySem.ofString_length _
      omega
  have h1 := fmt_text (ns.map fun n => (toString n : Str))
  have h2 := hp ns hn
  have h3 : ns.length * 1923 ≤ 192300 := by omega
  have h4 : (tupleText (ns.map fun n => (toString n : Str))).length ≤ sizeLine := by
    rw [sizeLine_eq]
    omega
  refine callType_new F.called_str (by decide) (F.typeCall_str_1 _) (F.newCall_str_1 _) (fun obj => F.args_object_init_2 obj _) F.entry_str_new
    (meets_str_new (S := fun A' R s' => A'.units + 4 < cLine ∧ s'.heap.get? a = some o ∧ ∀ (m : Str) (u tk : Tok), R (.ok (.ret (.str m u))) { s' with toks := tk }) fun prog w A' R s' h =>
      wpAny_strOf_slot rfl (by show A'.units + 1 + 1 < cLine; have := h.1; omega) ⟨o, h.2.1, hc⟩ F.slot_tuple_str F.slot_tuple_repr
        (fmt_tuple_repr h.2.1 hc hd ?_ h4 fun m u tk _ => ⟨m, u, rfl, h.2.2 m u tk⟩))
    ⟨by show X.A.units + 1 + 4 < cLine; omega, ho, fun m u tk => ⟨typeIs_str _ _ _, .str m, H, I.tok _, ⟨u, rfl⟩, q m⟩⟩
  exact by simpa using reprInts rv hn
end
end CK

set_option Elab.async false
set_option linter.all false
set_option maxRecDepth 100000
set_option maxHeartbeats 2000000
namespace CK
open PySem PySem.Spec PyProof.Rows L2
/-! ### a def as it stands behind the top, and its promise by its body -/
structure DefF (K : PySem.W.Frag) (mg : Str → Option Value) (x : Str) (st : Stmt) (ps : List Str) : Prop where
  ex : ∃ (f : Addr) (fd : FuncData), C8.Def K mg x st f fd ∧ ∀ us : List Value, us.length = ps.length → bindArgs fd ⟨us, []⟩ = pure (ps.zip us)
theorem defF_mk {K : PySem.W.Frag} {h : Heap} {mg : Str → Option Value} {x : Str} {st : Stmt} {ps : List Str} {f : Addr} {od an : Option Addr} {oc kV dc pm cd ct : Value} {sl : Array (Option Value)}
    (X : K.In h) (G : h.Ns mainGlobals mg) (a : PySem.W.nsIn K mainGlobals x = some (some (.ref f)))
    (l : K.lookup f = some ⟨oc, od, .func (PySem.W.fnOf x x (C8.fnArgs st) (C8.fnBody st) (C8.fnScope st) .none kV dc pm an cd ct), sl⟩)
    (c : PySem.W.codeIn K cd x = true) (k : PySem.W.keepIn K (.ref f) = true)
    (hb : ∀ (kV doc pm : Value) (an : Option Addr) (cdv ct : Value) (us : List Value), us.length = ps.length →
      bindArgs (PySem.W.fnOf x x (C8.fnArgs st) (C8.fnBody st) (C8.fnScope st) .none kV doc pm an cdv ct) ⟨us, []⟩ = pure (ps.zip us)) : DefF K mg x st ps :=
  ⟨f, _, ⟨⟨oc, od, .none, kV, dc, pm, an, cd, ct, sl, rfl, l, c⟩, PySem.W.mg_of X G a, k⟩, hb kV dc pm an cd ct⟩
theorem calF {P : Program} {w : World} {K : PySem.W.Frag} {mg : Str → Option Value} {base : Heap} {x : Str} {st : Stmt} {N ps : List Str} {k : Nat} {sp : Sp} (D : DefF K mg x st ps) (S : FnScope N ps (C8.fnScope st))
    (len : ∀ vs H Q E, sp vs H Q E → vs.length = ps.length)
    (hbody : ∀ (f : Addr) (cdv : Value) (A : Around) (outer : List Env) (s : Shared) (H : Hp) (vs : List V) (Q : VK) (E : XK), Room k (A.deeper (envOfC x (C8.fnScope st) s.heap.objs.size f cdv)) → sp vs H Q E →
      ∃ t, PSs (cxOf C8.CX0 P w K mg base N x (C8.fnScope st) f cdv A outer s H E).nox (C8.fnBody st) t ∧ t { nx := fun _ H' => Q .non H', rt := Q } (start N vs) H) : C8.Cal P w K mg base (k + 1) x sp [] := by
  obtain ⟨f, fd, F, b⟩ := D.ex
  exact C8.cal0 F (.all b) .nil S len (hbody f)
/-- a def of one parameter as it stands, for the law's end -/
theorem DefF.one {K : PySem.W.Frag} {mg : Str → Option Value} {x p : Str} {st : Stmt} (D : DefF K mg x st [p]) : ∃ (f : Addr) (fd : FuncData), mg x = some (.ref f) ∧ (∀ (s : Shared) (v : Value), BindsTo s fd ⟨[v], []⟩ [(p, v)]) ∧
    ∀ {P : Program} {w : World} {base : Heap} {N : List Str} {k : Nat} {sp : Sp} (S : FnScope N [p] (C8.fnScope st)) (len : ∀ vs H Q E, sp vs H Q E → vs.length = 1)
      (hbody : ∀ (f : Addr) (cdv : Value) (A : Around) (outer : List Env) (s : Shared) (H : Hp) (vs : List V) (Q : VK) (E : XK), Room k (A.deeper (envOfC x (C8.fnScope st) s.heap.objs.size f cdv)) → sp vs H Q E →
        ∃ t, PSs (cxOf C8.CX0 P w K mg base N x (C8.fnScope st) f cdv A outer s H E).nox (C8.fnBody st) t ∧ t { nx := fun _ H' => Q .non H', rt := Q } (start N vs) H), FnOk P w K mg base C8.CX0 (k + 1) f fd [p] sp := by
  obtain ⟨f, fd, F, b⟩ := D.ex
  exact ⟨f, fd, F.mgf, fun s v => .of_eq (b [v] rfl), fun S len hbody => C8.fn0 F.fn S len (hbody f)⟩

theorem with_def {K : PySem.W.Frag} {h : Heap} {mg : Str → Option Value} (_ : K.In h) (x : Str) (st : Stmt) (ps : List Str) {R : Prop} (d : DefF K mg x st ps) (r : DefF K mg x st ps → R) : R := r d
/-! ### heaps -/
/-- all that was tracked is as it was, but for g -/
def SameX (g : Addr) (H H' : Hp) : Prop := ∀ b o, b ≠ g → H b = some o → H' b = some o
theorem SameX.refl (g : Addr) (H : Hp) : SameX g H H := fun _ _ _ h => h
theorem SameX.trans {g : Addr} {H H1 H2 : Hp} (a : SameX g H H1) (b : SameX g H1 H2) : SameX g H H2 := fun c o n h => b c o n (a c o n h)
theorem SameX.of {g : Addr} {H H1 : Hp} (a : Same H H1) : SameX g H H1 := fun c o _ h => a c o h
theorem sameX_upd {g : Addr} {H : Hp} {o : HO} : SameX g H (upd H g o) := fun b z n e => by
  rw [upd_ne n]
  exact e
theorem same_upd2 {H H1 : Hp} {D : Addr} {o : HO} (hD : H D = none) (s : Same H H1) : Same H (upd H1 D o) := fun b z e => by
  rw [upd_ne (ne_of_none e hD)]
  exact s b z e

/-! ### what a value is -/
/-- the built-in type of a value that is known -/
def tnm (H : Hp) : V → String
  | .non => "NoneType"
  | .bl _ => "bool"
  | .int _ => "int"
  | .str _ => "str"
  | .ref a => match H a with
    | some (.lst _) => "list"
    | some (.tup _) => "tuple"
    | _ => "?"
  | _ => "?"
theorem tnm_tup {H : Hp} {a : Addr} {xs : List V} (h : H a = some (.tup xs)) : tnm H (.ref a) = "tuple" := by
  simp only [tnm, h]
theorem tnm_lst {H : Hp} {a : Addr} {xs : List V} (h : H a = some (.lst xs)) : tnm H (.ref a) = "list" := by
  simp only [tnm, h]
/-- a value whose type is known -/
inductive Kn (H : Hp) : V → Prop
  | non : Kn H .non
  | bl (b : Bool) : Kn H (.bl b)
  | int (i : Int) : Kn H (.int i)
  | str (x : Str) : Kn H (.str x)
  | lst {a : Addr} {xs : List V} (e : H a = some (.lst xs)) : Kn H (.ref a)
  | tup {a : Addr} {xs : List V} (e : H a = some (.tup xs)) : Kn H (.ref a)
theorem Kn.same {H H' : Hp} {v : V} (k : Kn H v) (s : Same H H') : Kn H' v := by
  cases k with
  | non => exact .non
  | bl b => exact .bl b
  | int i => exact .int i
  | str x => exact .str x
  | lst e => exact .lst (s _ _ e)
  | tup e => exact .tup (s _ _ e)
theorem Kn.ty {K : PySem.W.Frag} {H : Hp} {v : V} (k : Kn H v) : TyX K H v (.type (tnm H v)) := by
  cases k with
  | non => exact .base .non
  | bl b => exact .base (.bl b)
  | int i => exact .base (.int i)
  | str x => exact .base (.str x)
  | lst e => rw [tnm_lst e]; exact .base (.lst e)
  | tup e => rw [tnm_tup e]; exact .base (.tup e)
section
variable {X : Cx}
/-- isinstance(v, T), a known value, a built-in type -/
theorem call_isK : CallR X (.builtin "isinstance") (fun xs H Q => ∃ (v : V) (T : String) (b : Bool), xs = [v, .ty T] ∧ Kn H v ∧ kitB (tnm H v) T = some b ∧ Q (.bl b) H) := by
  intro pins s σ H xs us Q I r h
  obtain ⟨v, T, b, rfl, k, e, q⟩ := h
  exact call_isi pins s σ H _ us Q I r ⟨v, .ty T, _, _, b, rfl, .ty T, k.ty, kit_ty e, q⟩
end
/-- a whole number, no Boolean -/
def isW : V → Bool
  | .int _ => true
  | _ => false
/-- a count -/
def isC : V → Bool
  | .int i => decide (0 ≤ i)
  | _ => false
/-- isinstance(v, int) -/
def isI : V → Bool
  | .int _ => true
  | .bl _ => true
  | _ => false
def isBo : V → Bool
  | .bl _ => true
  | _ => false
def isTu (H : Hp) : V → Bool
  | .ref a => match H a with
    | some (.tup _) => true
    | _ => false
  | _ => false
def isLi (H : Hp) : V → Bool
  | .ref a => match H a with
    | some (.lst _) => true
    | _ => false
  | _ => false
theorem kit_int {H : Hp} {v : V} (k : Kn H v) : kitB (tnm H v) "int" = some (isI v) := by
  cases k with
  | non => show kitB "NoneType" "int" = some false; decide +kernel
  | bl b => show kitB "bool" "int" = some true; decide +kernel
  | int i => show kitB "int" "int" = some true; decide +kernel
  | str x => show kitB "str" "int" = some false; decide +kernel
  | lst e => rw [tnm_lst e]; show kitB "list" "int" = some false; decide +kernel
  | tup e => rw [tnm_tup e]; show kitB "tuple" "int" = some false; decide +kernel
theorem kit_bool {H : Hp} {v : V} (k : Kn H v) : kitB (tnm H v) "bool" = some (isBo v) := by
  cases k with
  | non => show kitB "NoneType" "bool" = some false; decide +kernel
  | bl b => show kitB "bool" "bool" = some true; decide +kernel
  | int i => show kitB "int" "bool" = some false; decide +kernel
  | str x => show kitB "str" "bool" = some false; decide +kernel
  | lst e => rw [tnm_lst e]; show kitB "list" "bool" = some false; decide +kernel
  | tup e => rw [tnm_tup e]; show kitB "tuple" "bool" = some false; decide +kernel
theorem kit_tuple {H : Hp} {v : V} (k : Kn H v) : kitB (tnm H v) "tuple" = some (isTu H v) := by
  cases k with
  | non => show kitB "NoneType" "tuple" = some false; decide +kernel
  | bl b => show kitB "bool" "tuple" = some false; decide +kernel
  | int i => show kitB "int" "tuple" = some false; decide +kernel
  | str x => show kitB "str" "tuple" = some false; decide +kernel
  | lst e => rw [tnm_lst e, show isTu H (.ref _) = false by simp only [isTu, e]]; decide +kernel
  | tup e => rw [tnm_tup e, show isTu H (.ref _) = true by simp only [isTu, e]]; decide +kernel
theorem kit_list {H : Hp} {v : V} (k : Kn H v) : kitB (tnm H v) "list" = some (isLi H v) := by
  cases k with
  | non => show kitB "NoneType" "list" = some false; decide +kernel
  | bl b => show kitB "bool" "list" = some false; decide +kernel
  | int i => show kitB "int" "list" = some false; decide +kernel
  | str x => show kitB "str" "list" = some false; decide +kernel
  | lst e => rw [tnm_lst e, show isLi H (.ref _) = true by simp only [isLi, e]]; decide +kernel
  | tup e => rw [tnm_tup e, show isLi H (.ref _) = false by simp only [isLi, e]]; decide +kernel
theorem isTu_tup {H : Hp} {a : Addr} {xs : List V} (e : H a = some (.tup xs)) : isTu H (.ref a) = true := by simp only [isTu, e]
theorem isLi_lst {H : Hp} {a : Addr} {xs : List V} (e : H a = some (.lst xs)) : isLi H (.ref a) = true := by simp only [isLi, e]

/-! ### comprehensions that map -/
/-- n turns, each giving f i and leaving all that was tracked -/
theorem lc_mapW {J : It} {n : Nat} {G : Hp → Prop} {Y : Nat → Hp → V → Hp → Prop} (w : Walk J n G Y) {g : TG} {te : TE} {vs : List Nat} {σ : L2.St} {H1 : Hp} {D : Addr} {Qd : Hp → Prop} (f : Nat → V) (hn : n < sizeLine)
    (hG : ∀ H, Same H1 H → G H)
    (hs : ∀ (i : Nat) (x : V) (H H' : Hp) (R : VK), i < n → Same H1 H → Y i H x H' → (∀ H'', Same H H'' → R (f i) H'') → g x (wipe σ vs) H' fun σ2 H2 => wipe σ2 vs = wipe σ vs ∧ te σ2 H2 R)
    (hD : H1 D = none) (hd : ∀ H : Hp, Same H1 H → H D = some (.lst ((List.range n).map f)) → Qd H) :
    ∃ W : Nat → Nat → Hp → Prop, (∃ m, W 0 m (upd H1 D (.lst []))) ∧ ∀ i m H, W i m H →
      (J.stop i H ∧ Qd H) ∨ (J.go i H ∧ ∃ Nx : Hp → Prop, (∀ H', Nx H' → ∃ m', m' < m ∧ W (i + 1) m' H') ∧ ∀ x H', J.yld i H x H' → g x (wipe σ vs) H' fun σ2 H2 => wipe σ2 vs = wipe σ vs ∧ tYes σ2 H2 fun b H3 =>
        if b = true then te σ2 H3 fun y H4 => ∃ acc, H4 D = some (.lst acc) ∧ acc.length < sizeLine ∧ Nx (upd H4 D (.lst (acc ++ [y]))) else Nx H3) := by
  refine lc_it w (fun i H => Same H1 H ∧ H D = some (.lst ((List.range i).map f)) ∧ i ≤ n) ⟨sameNew hD, upd_same, Nat.zero_le _⟩ (fun i H _ p => hG H p.1) (fun i x H H' hi p y => ?_) fun H p => hd H p.1 p.2.1
  have q := hs i x H H' (fun y H4 => ∃ acc, H4 D = some (.lst acc) ∧ acc.length < sizeLine ∧ (Same H1 (upd H4 D (.lst (acc ++ [y]))) ∧ upd H4 D (.lst (acc ++ [y])) D = some (.lst ((List.range (i + 1)).map f)) ∧ i + 1 ≤ n)) hi p.1 y fun H'' s => by
    refine ⟨_, s D _ p.2.1, ?_, same_upd2 hD (p.1.trans s), ?_, hi⟩
    · rw [List.length_map, List.length_range]
      omega
    · rw [upd_same, List.range_succ, List.map_append]
      rfl
  exact q
theorem range_map_get {α β : Type} (xs : List α) (f : α → β) (d : Nat → β) (h : ∀ (i : Nat) (x : α), xs[i]? = some x → d i = f x) : (List.range xs.length).map d = xs.map f := by
  refine List.ext_getElem? fun i => ?_
  by_cases hi : i < xs.length
  · rw [List.getElem?_map, List.getElem?_map, List.getElem?_range hi, List.getElem?_eq_getElem hi]
    exact congrArg some (h i _ (List.getElem?_eq_getElem hi))
  · rw [List.getElem?_eq_none (by simp; omega), List.getElem?_eq_none (by simp; omega)]
/-- over a tuple -/
theorem lcT_map {K : PySem.W.Frag} {a : Addr} {xs : List V} {j : Nat} {te : TE} {vs : List Nat} {σ : L2.St} {H1 : Hp} {D : Addr} {Qd : Hp → Prop} (f : V → V) (ha : H1 a = some (.tup xs)) (hn : xs.length < sizeLine)
    (hs : ∀ (i : Nat) (x : V) (H : Hp) (R : VK), xs[i]? = some x → Same H1 H → (∀ H', Same H H' → R (f x) H') → wipe ((wipe σ vs).set j (some x)) vs = wipe σ vs ∧ te ((wipe σ vs).set j (some x)) H R)
    (hD : H1 D = none) (hd : ∀ H : Hp, Same H1 H → H D = some (.lst (xs.map f)) → Qd H) :
    ∃ W : Nat → Nat → Hp → Prop, (∃ m, W 0 m (upd H1 D (.lst []))) ∧ ∀ i m H, W i m H →
      ((Itt K a).stop i H ∧ Qd H) ∨ ((Itt K a).go i H ∧ ∃ Nx : Hp → Prop, (∀ H', Nx H' → ∃ m', m' < m ∧ W (i + 1) m' H') ∧ ∀ x H', (Itt K a).yld i H x H' → gName j x (wipe σ vs) H' fun σ2 H2 => wipe σ2 vs = wipe σ vs ∧ tYes σ2 H2 fun b H3 =>
        if b = true then te σ2 H3 fun y H4 => ∃ acc, H4 D = some (.lst acc) ∧ acc.length < sizeLine ∧ Nx (upd H4 D (.lst (acc ++ [y]))) else Nx H3) := by
  have e : (List.range xs.length).map (fun i => f (xs.getD i .non)) = xs.map f := range_map_get xs f _ fun i x h => by rw [List.getD_eq_getElem?_getD, h]; rfl
  refine lc_mapW (walk_tup (K := K) (a := a) (xs := xs)) (fun i => f (xs.getD i .non)) hn (fun H s => .inl (.inl (s _ _ ha))) (fun i x H H' R hi s y q => ?_) hD fun H s q => hd H s (by rw [q, e])
  obtain ⟨rfl, hx⟩ := y
  refine hs i x H' R hx s fun H'' s' => ?_
  have := q H'' s'
  rw [show xs.getD i .non = x by rw [List.getD_eq_getElem?_getD, hx]; rfl] at this
  exact this
/-- over a list -/
theorem lcL_map {K : PySem.W.Frag} {a : Addr} {xs : List V} {j : Nat} {te : TE} {vs : List Nat} {σ : L2.St} {H1 : Hp} {D : Addr} {Qd : Hp → Prop} (f : V → V) (ha : H1 a = some (.lst xs)) (hn : xs.length < sizeLine)
    (hs : ∀ (i : Nat) (x : V) (H : Hp) (R : VK), xs[i]? = some x → Same H1 H → (∀ H', Same H H' → R (f x) H') → wipe ((wipe σ vs).set j (some x)) vs = wipe σ vs ∧ te ((wipe σ vs).set j (some x)) H R)
    (hD : H1 D = none) (hd : ∀ H : Hp, Same H1 H → H D = some (.lst (xs.map f)) → Qd H) :
    ∃ W : Nat → Nat → Hp → Prop, (∃ m, W 0 m (upd H1 D (.lst []))) ∧ ∀ i m H, W i m H →
      ((Itl K a).stop i H ∧ Qd H) ∨ ((Itl K a).go i H ∧ ∃ Nx : Hp → Prop, (∀ H', Nx H' → ∃ m', m' < m ∧ W (i + 1) m' H') ∧ ∀ x H', (Itl K a).yld i H x H' → gName j x (wipe σ vs) H' fun σ2 H2 => wipe σ2 vs = wipe σ vs ∧ tYes σ2 H2 fun b H3 =>
        if b = true then te σ2 H3 fun y H4 => ∃ acc, H4 D = some (.lst acc) ∧ acc.length < sizeLine ∧ Nx (upd H4 D (.lst (acc ++ [y]))) else Nx H3) := by
  have e : (List.range xs.length).map (fun i => f (xs.getD i .non)) = xs.map f := range_map_get xs f _ fun i x h => by rw [List.getD_eq_getElem?_getD, h]; rfl
  refine lc_mapW (walk_list (K := K) (a := a) (xs := xs)) (fun i => f (xs.getD i .non)) hn (fun H s => .inl (.inl (s _ _ ha))) (fun i x H H' R hi s y q => ?_) hD fun H s q => hd H s (by rw [q, e])
  obtain ⟨rfl, hx⟩ := y
  refine hs i x H' R hx s fun H'' s' => ?_
  have := q H'' s'
  rw [show xs.getD i .non = x by rw [List.getD_eq_getElem?_getD, hx]; rfl] at this
  exact this
/-- over a range -/
theorem lcR_map {lo : Int} {n : Nat} {j : Nat} {te : TE} {vs : List Nat} {σ : L2.St} {H1 : Hp} {D : Addr} {Qd : Hp → Prop} (f : Nat → V) (hn : n < sizeLine)
    (hs : ∀ (i : Nat) (H : Hp) (R : VK), i < n → Same H1 H → (∀ H', Same H H' → R (f i) H') → wipe ((wipe σ vs).set j (some (.int (lo + i)))) vs = wipe σ vs ∧ te ((wipe σ vs).set j (some (.int (lo + i)))) H R)
    (hD : H1 D = none) (hd : ∀ H : Hp, Same H1 H → H D = some (.lst ((List.range n).map f)) → Qd H) :
    ∃ W : Nat → Nat → Hp → Prop, (∃ m, W 0 m (upd H1 D (.lst []))) ∧ ∀ i m H, W i m H →
      ((Itr lo n).stop i H ∧ Qd H) ∨ ((Itr lo n).go i H ∧ ∃ Nx : Hp → Prop, (∀ H', Nx H' → ∃ m', m' < m ∧ W (i + 1) m' H') ∧ ∀ x H', (Itr lo n).yld i H x H' → gName j x (wipe σ vs) H' fun σ2 H2 => wipe σ2 vs = wipe σ vs ∧ tYes σ2 H2 fun b H3 =>
        if b = true then te σ2 H3 fun y H4 => ∃ acc, H4 D = some (.lst acc) ∧ acc.length < sizeLine ∧ Nx (upd H4 D (.lst (acc ++ [y]))) else Nx H3) := by
  refine lc_mapW (walk_range (lo := lo) (n := n)) f hn (fun H s => True.intro) (fun i x H H' R hi s y q => ?_) hD fun H s q => hd H s q
  obtain ⟨rfl, rfl⟩ := y
  exact hs i H' R hi s q
theorem range_map_zip {α β γ : Type} (xs : List α) (ys : List β) (hl : xs.length = ys.length) (f : α → β → γ) (d : Nat → γ) (h : ∀ (i : Nat) (x : α) (y : β), xs[i]? = some x → ys[i]? = some y → d i = f x y) : (List.range xs.length).map d = List.zipWith f xs ys := by
  refine List.ext_getElem? fun i => ?_
  by_cases hi : i < xs.length
  · have hi2 : i < ys.length := by omega
    rw [List.getElem?_map, List.getElem?_range hi, List.getElem?_zipWith, List.getElem?_eq_getElem hi, List.getElem?_eq_getElem hi2]
    exact congrArg some (h i _ _ (List.getElem?_eq_getElem hi) (List.getElem?_eq_getElem hi2))
  · rw [List.getElem?_eq_none (by simp; omega), List.getElem?_eq_none (by simp; omega)]
/-- over zip -/
theorem lcZ_map {K : PySem.W.Frag} {k k' : Kd} {a b : Addr} {xs ys : List V} {i1 i2 : Nat} {te : TE} {vs : List Nat} {σ : L2.St} {H1 : Hp} {D : Addr} {Qd : Hp → Prop} (f : V → V → V) (hl : xs.length = ys.length) (hn : xs.length < sizeLine)
    (ha : ∀ H, Same H1 H → SqB K k H a xs ∧ SqB K k' H b ys)
    (hs : ∀ (i : Nat) (x y : V) (H : Hp) (R : VK), xs[i]? = some x → ys[i]? = some y → Same H1 H → (∀ H', Same H H' → R (f x y) H') → wipe (((wipe σ vs).set i1 (some x)).set i2 (some y)) vs = wipe σ vs ∧ te (((wipe σ vs).set i1 (some x)).set i2 (some y)) H R)
    (hD : H1 D = none) (hd : ∀ H : Hp, Same H1 H → H D = some (.lst (List.zipWith f xs ys)) → Qd H) :
    ∃ W : Nat → Nat → Hp → Prop, (∃ m, W 0 m (upd H1 D (.lst []))) ∧ ∀ i m H, W i m H →
      ((ItB K k k' a b).stop i H ∧ Qd H) ∨ ((ItB K k k' a b).go i H ∧ ∃ Nx : Hp → Prop, (∀ H', Nx H' → ∃ m', m' < m ∧ W (i + 1) m' H') ∧ ∀ x H', (ItB K k k' a b).yld i H x H' → gTup K 2 (gCons (gName i1) (gCons (gName i2) gNil)) x (wipe σ vs) H' fun σ2 H2 => wipe σ2 vs = wipe σ vs ∧ tYes σ2 H2 fun b H3 =>
        if b = true then te σ2 H3 fun y H4 => ∃ acc, H4 D = some (.lst acc) ∧ acc.length < sizeLine ∧ Nx (upd H4 D (.lst (acc ++ [y]))) else Nx H3) := by
  have e : (List.range xs.length).map (fun i => f (xs.getD i .non) (ys.getD i .non)) = List.zipWith f xs ys := range_map_zip xs ys hl f _ fun i x y h h' => by
    rw [List.getD_eq_getElem?_getD, List.getD_eq_getElem?_getD, h, h']
    rfl
  refine lc_mapW (walkB (K := K) (k := k) (k' := k') (a := a) (b := b) hl) (fun i => f (xs.getD i .non) (ys.getD i .non)) hn ha (fun i v H H' R hi s y q => ?_) hD fun H s q => hd H s (by rw [q, e])
  obtain ⟨T, x, y, rfl, hT, rfl, hx, hy⟩ := y
  have hx : xs[i]? = some x := hx
  have hy : ys[i]? = some y := hy
  have st : Same H (upd H T (.tup [x, y])) := sameNew hT
  refine ⟨T, [x, y], rfl, .inl (.inl upd_same), rfl, x, [y], rfl, y, [], rfl, rfl, hs i x y _ R hx hy (s.trans st) fun H'' s' => ?_⟩
  have := q H'' (st.trans s')
  rw [show xs.getD i .non = x by rw [List.getD_eq_getElem?_getD, hx]; rfl, show ys.getD i .non = y by rw [List.getD_eq_getElem?_getD, hy]; rfl] at this
  exact this
end CK

set_option Elab.async false
set_option linter.all false
set_option maxRecDepth 100000
set_option maxHeartbeats 2000000
namespace CK
open PySem PySem.Spec PyProof.Rows L2
theorem cutV_drop (xs : List V) (k : Nat) : cutV xs (some (k : Int)) none = xs.drop k := by
  unfold cutV
  rw [HT.sIx_nat xs.length 0 k, HT.sIx_none]
  by_cases h : k ≤ xs.length
  · rw [Nat.min_eq_left h, List.take_of_length_le (by rw [List.length_drop]; exact Nat.le_refl _)]
  · rw [Nat.min_eq_right (by omega), List.drop_of_length_le (Nat.le_refl _), List.drop_of_length_le (by omega), List.take_nil]
theorem cutV_take (xs : List V) (k : Nat) : cutV xs none (some (k : Int)) = xs.take k := by
  unfold cutV
  rw [HT.sIx_nat xs.length xs.length k, HT.sIx_none]
  show (xs.drop 0).take (min k xs.length - 0) = xs.take k
  rw [List.drop_zero, Nat.sub_zero]
  by_cases h : k ≤ xs.length
  · rw [Nat.min_eq_left h]
  · rw [Nat.min_eq_right (by omega), List.take_of_length_le (Nat.le_refl _), List.take_of_length_le (by omega)]
section
variable {X : Cx}
/-- a, b = a pair -/
theorem pg_two {K : PySem.W.Frag} {i j : Nat} {x y : Str} {px py pos : Pos} {k : Nat} (hK : X.K = K) (hc : X.calm = true) (hN : X.N.Nodup) (hi : X.N[i]? = some x) (hj : X.N[j]? = some y) (hx : Loc X.env.scope x) (hy : Loc X.env.scope y)
    (f1 : X.fn x = true ∨ X.env.scope.names.lookup x = some .local := by first | exact .inl rfl | exact .inr rfl)
    (f2 : X.fn y = true ∨ X.env.scope.names.lookup y = some .local := by first | exact .inl rfl | exact .inr rfl) :
    PG X (.Tuple [.Name x px, .Name y py] k pos) (gTup K 2 (gCons (gName i) (gCons (gName j) gNil))) := by
  subst hK
  exact pg_tup hc (pgs_cons (pg_name hN hi hx f1) (pgs_cons (pg_name hN hj hy f2) pgs_nil))
/-- t[k:], a tuple: what is behind, wherever it stands -/
theorem sl_drop : SlR X (fun x lo hi H Q => ∃ (a : Addr) (xs : List V) (k : Nat), x = .ref a ∧ lo = some (k : Int) ∧ hi = none ∧ H a = some (.tup xs) ∧ ∀ p H', Same H H' → H' p = some (.tup (xs.drop k)) → Q (.ref p) H') := by
  intro pins s σ H x v vl vu lo hi sl Q I rx hs pl pu h
  obtain ⟨a, xs, k, rfl, rfl, rfl, ha, q⟩ := h
  refine sl_tupA pins s σ H _ v vl vu _ _ sl Q I rx hs pl pu ⟨a, xs, rfl, .inl (.inl ha), fun z => q a H (Same.refl H) ?_, fun _ p hp => q p _ (sameNew hp) (by rw [upd_same, cutV_drop])⟩
  rw [ha, ← cutV_drop xs k]
  unfold cutV
  rw [z.1, z.2, Nat.sub_zero, List.drop_zero, List.take_length]
/-- t[:k] -/
theorem sl_take : SlR X (fun x lo hi H Q => ∃ (a : Addr) (xs : List V) (k : Nat), x = .ref a ∧ lo = none ∧ hi = some (k : Int) ∧ H a = some (.tup xs) ∧ ∀ p H', Same H H' → H' p = some (.tup (xs.take k)) → Q (.ref p) H') := by
  intro pins s σ H x v vl vu lo hi sl Q I rx hs pl pu h
  obtain ⟨a, xs, k, rfl, rfl, rfl, ha, q⟩ := h
  refine sl_tupA pins s σ H _ v vl vu _ _ sl Q I rx hs pl pu ⟨a, xs, rfl, .inl (.inl ha), fun z => q a H (Same.refl H) ?_, fun _ p hp => q p _ (sameNew hp) (by rw [upd_same, cutV_take])⟩
  rw [ha, ← cutV_take xs k]
  unfold cutV
  rw [z.1, z.2, Nat.sub_zero, List.drop_zero, List.take_length]
/-- t + u, tuples -/
theorem op_catS : OpR X (binaryOp .Add) (fun x y H Q => ∃ (a b : Addr) (xs ys : List V), x = .ref a ∧ y = .ref b ∧ H a = some (.tup xs) ∧ H b = some (.tup ys) ∧ xs.length + ys.length ≤ 1000 ∧
    ∀ p H', Same H H' → H' p = some (.tup (xs ++ ys)) → Q (.ref p) H') := by
  intro pins s σ H x y v u Q I rx ry h
  obtain ⟨a, b, xs, ys, rfl, rfl, ha, hb, hl, q⟩ := h
  refine op_catA pins s σ H _ _ v u Q I rx ry ⟨a, b, xs, ys, rfl, rfl, .inl (.inl ha), .inl (.inl hb), Nat.le_of_lt (small1000 hl), fun e => ?_, fun _ e => ?_, fun _ _ p hp => q p _ (sameNew hp) upd_same⟩
  · subst e
    exact q b H (Same.refl H) hb
  · subst e
    exact q a H (Same.refl H) (by rw [List.append_nil]; exact ha)
/-- t[i], xs[i] of what is tracked (no word of the written part, so that it stands in a comprehension) -/
theorem ix_tupH : IxR X (fun x y H Q => ∃ (p : Addr) (xs : List V) (i : Int) (v : V), x = .ref p ∧ y = .int i ∧ H p = some (.tup xs) ∧ atI xs i = some v ∧ Q v H) := by
  intro ve se pins s σ H x y xv yv Q I rx ry h e
  obtain ⟨p, xs, i, v, e1, e2, hp, e3, q⟩ := h
  exact ix_tup ve se pins s σ H x y xv yv Q I rx ry ⟨p, xs, i, v, e1, e2, .inl (.inl hp), e3, q⟩ e
theorem ix_listH : IxR X (fun x y H Q => ∃ (p : Addr) (xs : List V) (i : Int) (v : V), x = .ref p ∧ y = .int i ∧ H p = some (.lst xs) ∧ atI xs i = some v ∧ Q v H) := by
  intro ve se pins s σ H x y xv yv Q I rx ry h e
  obtain ⟨p, xs, i, v, e1, e2, hp, e3, q⟩ := h
  exact ix_list ve se pins s σ H x y xv yv Q I rx ry ⟨p, xs, i, v, e1, e2, .inl (.inl hp), e3, q⟩ e
theorem cr_sumH (hc : X.calm = true) : CallR X (.builtin "sum") (fun vs H Q => ∃ (a : Addr) (ns : List Int), vs = [V.ref a] ∧ H a = some (.lst (ns.map V.int)) ∧ Q (.int ns.sum) H) := by
  intro pins s σ H xs us Q I r h
  obtain ⟨a, ns, e, ha, q⟩ := h
  exact cr_sum hc pins s σ H xs us Q I r ⟨a, ns, e, .inl (.inl ha), q⟩
theorem call_listL : CallR X (.type "list") (fun xs H Q => ∃ (p : Addr) (ys : List V), xs = [.ref p] ∧ H p = some (.lst ys) ∧ ∀ l, H l = none → Q (.ref l) (upd H l (.lst ys))) := by
  intro pins s σ H xs us Q I r h
  obtain ⟨p, ys, e, hp, q⟩ := h
  exact call_list_of pins s σ H xs us Q I r ⟨p, ys, e, .inl (.inl (.inl hp)), q⟩
/-- tuple(xs) of a list: a new tuple -/
theorem call_tupL : CallR X (.type "tuple") (fun xs H Q => ∃ (p : Addr) (ys : List V), xs = [.ref p] ∧ H p = some (.lst ys) ∧ ∀ l H', Same H H' → H' l = some (.tup ys) → Q (.ref l) H') := by
  intro pins s σ H xs us Q I r h
  obtain ⟨p, ys, rfl, hp, q⟩ := h
  exact call_tuple_of pins s σ H _ us Q I r ⟨p, ys, rfl, .inl ⟨.inl (.inl hp), fun l hl => q l _ (sameNew hl) upd_same⟩⟩
end
end CK

set_option Elab.async false
set_option linter.all false
set_option maxRecDepth 100000
set_option maxHeartbeats 2000000
/-! the laws' generator of numbers: a list of three whole numbers -/
namespace CK
open PySem PySem.Spec PyProof.Rows L2
/-- the generator at g, from which n more numbers may be drawn -/
def Gn (n : Nat) (H : Hp) (g : Addr) : Prop := ∃ a b c : Int, H g = some (.lst [.int a, .int b, .int c]) ∧ 0 ≤ a ∧ 0 ≤ b ∧ b < 2 ^ 31 ∧ 0 ≤ c ∧ c + 8 * n ≤ 2 ^ 40
theorem Gn.le {n m : Nat} {H : Hp} {g : Addr} (h : Gn n H g) (hm : m ≤ n) : Gn m H g := by
  obtain ⟨a, b, c, h1, h2, h3, h4, h5, h6⟩ := h
  exact ⟨a, b, c, h1, h2, h3, h4, h5, by omega⟩
theorem Gn.same {n : Nat} {H H' : Hp} {g : Addr} (h : Gn n H g) (s : Same H H') : Gn n H' g := by
  obtain ⟨a, b, c, h1, r⟩ := h
  exact ⟨a, b, c, s _ _ h1, r⟩
theorem Gn.at {n : Nat} {H : Hp} {g : Addr} (h : Gn n H g) : ∃ xs, H g = some (.lst xs) := by
  obtain ⟨a, b, c, h1, r⟩ := h
  exact ⟨_, h1⟩
theorem Gn.ne {n : Nat} {H : Hp} {g D : Addr} (h : Gn n H g) (hD : H D = none) : D ≠ g := fun e => by
  obtain ⟨xs, h1⟩ := h.at
  rw [e, h1] at hD
  cases hD
theorem Gn.upd {n : Nat} {H : Hp} {g D : Addr} {o : HO} (h : Gn n H g) (hD : D ≠ g) : Gn n (upd H D o) g := by
  obtain ⟨a, b, c, h1, r⟩ := h
  exact ⟨a, b, c, by rw [upd_ne (Ne.symm hD)]; exact h1, r⟩
theorem sameX_new {g : Addr} {H : Hp} {D : Addr} {o : HO} (hD : H D = none) : SameX g H (L2.upd H D o) := .of (sameNew hD)
theorem SameX.upd2 {g D : Addr} {H H1 : Hp} {o : HO} (s : SameX g H H1) (hD : H D = none) : SameX g H (L2.upd H1 D o) := fun b z n e => by
  rw [upd_ne (ne_of_none e hD)]
  exact s b z n e
theorem SameX.tup {g a : Addr} {H H' : Hp} {xs : List V} {n : Nat} (s : SameX g H H') (G : Gn n H g) (h : H a = some (.tup xs)) : H' a = some (.tup xs) := s a _ (fun e => by
  obtain ⟨ys, h1⟩ := G.at
  rw [e, h1] at h
  cases h) h
theorem ix_at {n j : Nat} (h : j < n) : ixN n (j : Int) = some j := by
  unfold ixN
  rw [if_pos (by omega), if_pos (by omega)]
  rfl
/-- a comprehension that draws: its numbers stay within most -/
theorem lcD_draw {lo : Int} {g : Addr} {n cnt j : Nat} {most : Int} {te : TE} {vs : List Nat} {σ : L2.St} {H1 : Hp} {D : Addr} {Qd : Hp → Prop} (hc : cnt < sizeLine) (hD : H1 D = none) (hg : Gn (n + cnt) H1 g)
    (hs : ∀ (i : Nat) (H : Hp) (R : VK), i < cnt → SameX g H1 H → Gn (n + (cnt - (i + 1)) + 1) H g → (∀ (r : Int) H', SameX g H H' → Gn (n + (cnt - (i + 1))) H' g → 0 ≤ r → r ≤ most → R (.int r) H') →
      wipe ((wipe σ vs).set j (some (.int (lo + i)))) vs = wipe σ vs ∧ te ((wipe σ vs).set j (some (.int (lo + i)))) H R)
    (hd : ∀ (H : Hp) (ns : List Int), SameX g H1 H → Gn n H g → H D = some (.lst (ns.map V.int)) → ns.length = cnt → (∀ x ∈ ns, 0 ≤ x ∧ x ≤ most) → Qd H) :
    ∃ W : Nat → Nat → Hp → Prop, (∃ m, W 0 m (L2.upd H1 D (.lst []))) ∧ ∀ i m H, W i m H →
      ((Itr lo cnt).stop i H ∧ Qd H) ∨ ((Itr lo cnt).go i H ∧ ∃ Nx : Hp → Prop, (∀ H', Nx H' → ∃ m', m' < m ∧ W (i + 1) m' H') ∧ ∀ x H', (Itr lo cnt).yld i H x H' → gName j x (wipe σ vs) H' fun σ2 H2 => wipe σ2 vs = wipe σ vs ∧ tYes σ2 H2 fun b H3 =>
        if b = true then te σ2 H3 fun y H4 => ∃ acc, H4 D = some (.lst acc) ∧ acc.length < sizeLine ∧ Nx (L2.upd H4 D (.lst (acc ++ [y]))) else Nx H3) := by
  have hDg := hg.ne hD
  refine lc_range (fun i H => SameX g H1 H ∧ Gn (n + (cnt - i)) H g ∧ i ≤ cnt ∧ ∃ ns : List Int, H D = some (.lst (ns.map V.int)) ∧ ns.length = i ∧ ∀ x ∈ ns, 0 ≤ x ∧ x ≤ most)
    ⟨sameX_new hD, hg.upd hDg, Nat.zero_le _, [], upd_same, rfl, fun x h => absurd h List.not_mem_nil⟩ (fun i H hi p => ?_) fun H p => ?_
  · obtain ⟨s, G, _, ns, hL, hl, hb⟩ := p
    have G1 : Gn (n + (cnt - (i + 1)) + 1) H g := by
      have e : n + (cnt - (i + 1)) + 1 = n + (cnt - i) := by omega
      rw [e]
      exact G
    refine hs i H _ hi s G1 fun r H' s' G' h0 h1 => ⟨_, s' D _ hDg hL, by rw [List.length_map]; omega, (s.trans s').upd2 hD, G'.upd hDg, hi, ns ++ [r], ?_, ?_, fun x hx => ?_⟩
    · rw [upd_same, List.map_append]
      rfl
    · rw [List.length_append, hl]
      rfl
    · rcases List.mem_append.mp hx with z | z
      · exact hb x z
      · rw [List.mem_singleton.mp z]
        exact ⟨h0, h1⟩
  · obtain ⟨s, G, _, ns, hL, hl, hb⟩ := p
    rw [Nat.sub_self] at G
    exact hd H ns s G hL hl hb
end CK

set_option Elab.async false
set_option linter.all false
set_option maxRecDepth 100000
set_option maxHeartbeats 2000000
namespace CK
open PySem PySem.Spec PyProof.Rows L2
/-! ### data that are compared -/
def dI (ns : List Int) : PyData := .tuple (ns.map PyData.int)
theorem lay_ints : ∀ ns : List Int, PyData.canLayAll0 (ns.map PyData.int) = true
  | [] => by simp [PyData.canLayAll0]
  | n :: ns => by
    rw [List.map_cons, PyData.canLayAll0, lay_ints ns]
    simp [PyData.canLay0]
theorem deep_ints : ∀ ns : List Int, PyData.depthAll (ns.map PyData.int) = 0
  | [] => by simp [PyData.depthAll]
  | n :: ns => by
    rw [List.map_cons, PyData.depthAll, deep_ints ns]
    simp [PyData.depth]
theorem lay_dI (ns : List Int) : (dI ns).canLay0 = true := by
  unfold dI
  rw [PyData.canLay0]
  exact lay_ints ns
theorem deep_dI (ns : List Int) : (dI ns).depth = 1 := by
  unfold dI
  rw [PyData.depth, deep_ints]
theorem shaped_dI (ns : List Int) : SeqAt.shaped (dI ns) = true := by
  unfold SeqAt.shaped
  rw [lay_dI, deep_dI]
  rfl
theorem lay_forms : ∀ fs : List (List Int), PyData.canLayAll0 (fs.map dI) = true
  | [] => by simp [PyData.canLayAll0]
  | f :: fs => by
    rw [List.map_cons, PyData.canLayAll0, lay_forms fs, lay_dI]
    rfl
theorem deep_forms : ∀ fs : List (List Int), PyData.depthAll (fs.map dI) ≤ 1
  | [] => by simp [PyData.depthAll]
  | f :: fs => by
    have := deep_forms fs
    rw [List.map_cons, PyData.depthAll, deep_dI]
    omega
theorem shaped_forms (fs : List (List Int)) : SeqAt.shaped (.list (fs.map dI)) = true := by
  unfold SeqAt.shaped
  rw [PyData.canLay0, lay_forms, PyData.depth]
  have := deep_forms fs
  rw [decide_eq_true (by omega)]
  rfl
section
variable {K : PySem.W.Frag} {H : Hp}
theorem dpAll_ints : ∀ ns : List Int, DpAll K H (ns.map V.int) (ns.map PyData.int)
  | [] => .nil
  | n :: ns => .cons (.int n) (dpAll_ints ns)
theorem dp_ints {a : Addr} {ns : List Int} (h : H a = some (.tup (ns.map V.int))) : Dp K H (.ref a) (dI ns) := .tup (.inl (.inl h)) (dpAll_ints ns)
end
section
variable {X : Cx}
/-- x != y, of equal data -/
theorem op_neSame (hu : X.A.units + 64 < cLine) : OpR X (compareOp .NotEq) (fun x y H Q => ∃ d, Dp X.K H x d ∧ Dp X.K H y d ∧ SeqAt.shaped d = true ∧ Q (.bl false) H) := by
  intro pins s σ H x y v u Q I rx ry h
  obtain ⟨d, h1, h2, h3, q⟩ := h
  refine op_neD hu pins s σ H x y v u Q I rx ry ⟨d, d, h1, h2, h3, h3, ?_⟩
  rw [SeqAt.eqv_refl d (SeqAt.canLay_of_shaped h3)]
  exact q
end
/-! ### comprehensions that map, by the turn's number -/
theorem lcZ_mapI {K : PySem.W.Frag} {k k' : Kd} {a b : Addr} {xs ys : List V} {i1 i2 : Nat} {te : TE} {vs : List Nat} {σ : L2.St} {H1 : Hp} {D : Addr} {Qd : Hp → Prop} (f : Nat → V) (hl : xs.length = ys.length) (hn : xs.length < sizeLine)
    (ha : ∀ H, Same H1 H → SqB K k H a xs ∧ SqB K k' H b ys)
    (hs : ∀ (i : Nat) (x y : V) (H : Hp) (R : VK), xs[i]? = some x → ys[i]? = some y → Same H1 H → (∀ H', Same H H' → R (f i) H') → wipe (((wipe σ vs).set i1 (some x)).set i2 (some y)) vs = wipe σ vs ∧ te (((wipe σ vs).set i1 (some x)).set i2 (some y)) H R)
    (hD : H1 D = none) (hd : ∀ H : Hp, Same H1 H → H D = some (.lst ((List.range xs.length).map f)) → Qd H) :
    ∃ W : Nat → Nat → Hp → Prop, (∃ m, W 0 m (upd H1 D (.lst []))) ∧ ∀ i m H, W i m H →
      ((ItB K k k' a b).stop i H ∧ Qd H) ∨ ((ItB K k k' a b).go i H ∧ ∃ Nx : Hp → Prop, (∀ H', Nx H' → ∃ m', m' < m ∧ W (i + 1) m' H') ∧ ∀ x H', (ItB K k k' a b).yld i H x H' → gTup K 2 (gCons (gName i1) (gCons (gName i2) gNil)) x (wipe σ vs) H' fun σ2 H2 => wipe σ2 vs = wipe σ vs ∧ tYes σ2 H2 fun b H3 =>
        if b = true then te σ2 H3 fun y H4 => ∃ acc, H4 D = some (.lst acc) ∧ acc.length < sizeLine ∧ Nx (upd H4 D (.lst (acc ++ [y]))) else Nx H3) := by
  refine lc_mapW (walkB (K := K) (k := k) (k' := k') (a := a) (b := b) hl) f hn ha (fun i v H H' R hi s y q => ?_) hD hd
  obtain ⟨T, x, y, rfl, hT, rfl, hx, hy⟩ := y
  have hx : xs[i]? = some x := hx
  have hy : ys[i]? = some y := hy
  have st : Same H (upd H T (.tup [x, y])) := sameNew hT
  exact ⟨T, [x, y], rfl, .inl (.inl upd_same), rfl, x, [y], rfl, y, [], rfl, rfl, hs i x y _ R hx hy (s.trans st) fun H'' s' => q H'' (st.trans s')⟩
theorem lcL_mapI {K : PySem.W.Frag} {a : Addr} {xs : List V} {j : Nat} {te : TE} {vs : List Nat} {σ : L2.St} {H1 : Hp} {D : Addr} {Qd : Hp → Prop} (f : Nat → V) (ha : H1 a = some (.lst xs)) (hn : xs.length < sizeLine)
    (hs : ∀ (i : Nat) (x : V) (H : Hp) (R : VK), xs[i]? = some x → Same H1 H → (∀ H', Same H H' → R (f i) H') → wipe ((wipe σ vs).set j (some x)) vs = wipe σ vs ∧ te ((wipe σ vs).set j (some x)) H R)
    (hD : H1 D = none) (hd : ∀ H : Hp, Same H1 H → H D = some (.lst ((List.range xs.length).map f)) → Qd H) :
    ∃ W : Nat → Nat → Hp → Prop, (∃ m, W 0 m (upd H1 D (.lst []))) ∧ ∀ i m H, W i m H →
      ((Itl K a).stop i H ∧ Qd H) ∨ ((Itl K a).go i H ∧ ∃ Nx : Hp → Prop, (∀ H', Nx H' → ∃ m', m' < m ∧ W (i + 1) m' H') ∧ ∀ x H', (Itl K a).yld i H x H' → gName j x (wipe σ vs) H' fun σ2 H2 => wipe σ2 vs = wipe σ vs ∧ tYes σ2 H2 fun b H3 =>
        if b = true then te σ2 H3 fun y H4 => ∃ acc, H4 D = some (.lst acc) ∧ acc.length < sizeLine ∧ Nx (upd H4 D (.lst (acc ++ [y]))) else Nx H3) := by
  refine lc_mapW (walk_list (K := K) (a := a) (xs := xs)) f hn (fun H s => .inl (.inl (s _ _ ha))) (fun i x H H' R hi s y q => ?_) hD hd
  obtain ⟨rfl, hx⟩ := y
  exact hs i x H' R hx s q
end CK

set_option Elab.async false
set_option linter.all false
set_option maxRecDepth 100000
set_option maxHeartbeats 2000000
/-! own classes: their facts, their methods' promises by their bodies -/
namespace CK
open PySem PySem.Spec PyProof.Rows L2
/-- a method's def as it stands behind the top -/
structure MetF (K : PySem.W.Frag) (C : Addr) (m q : Str) (st : Stmt) (ps : List Str) : Prop where
  ex : ∃ (f : Addr) (fd : FuncData), C8.Fun K m q st f fd ∧ Meth K C m f ∧ Binds K fd ps []
/-- a class as it stands -/
structure ClF (K : PySem.W.Frag) (mg : Str → Option Value) (x : Str) (C : Addr) : Prop where
  mgC : mg x = some (.ref C)
  makes : PySem.W.makesIn K C = true
  kp : PySem.W.keepIn K (.ref C) = true
  ins : C8.InsC K C
theorem metF_mk {K : PySem.W.Frag} {mg : Str → Option Value} {x : Str} {C : Addr} (_ : ClF K mg x C) (m q : Str) (st : Stmt) (ps : List Str) {f : Addr} {od an : Option Addr} {oc kV dc pm cd ct : Value} {sl : Array (Option Value)}
    (a : PySem.W.findIn K (.ref C) m = some (some (.ref f))) (i : PySem.W.isFn K (.ref f) = true)
    (l : K.lookup f = some ⟨oc, od, .func (PySem.W.fnOf m q (C8.fnArgs st) (C8.fnBody st) (C8.fnScope st) .none kV dc pm an cd ct), sl⟩)
    (c : PySem.W.codeIn K cd q = true) (k : PySem.W.keepIn K (.ref f) = true)
    (hb : ∀ (kV doc pm : Value) (an : Option Addr) (cdv ct : Value) (us : List Value), us.length = ps.length →
      bindArgs (PySem.W.fnOf m q (C8.fnArgs st) (C8.fnBody st) (C8.fnScope st) .none kV doc pm an cdv ct) ⟨us, []⟩ = pure (ps.zip us)) : MetF K C m q st ps :=
  ⟨f, _, ⟨oc, od, .none, kV, dc, pm, an, cd, ct, sl, rfl, l, c⟩, ⟨a, i, k⟩, C8.Fun.binds ⟨oc, od, .none, kV, dc, pm, an, cd, ct, sl, rfl, l, c⟩ rfl hb⟩
theorem clF_mk {K : PySem.W.Frag} {h : Heap} {mg : Str → Option Value} {x : Str} {C : Addr} (X : K.In h) (G : h.Ns mainGlobals mg)
    (a : PySem.W.nsIn K mainGlobals x = some (some (.ref C))) (pg : PySem.W.plainGet K C Str.empty = true) (hd : PySem.W.hasDictIn K C = true) (po : PySem.W.plainOver K C = true)
    (sa : PySem.W.findIn K (.ref C) "__setattr__" = some (some (.builtin "object.__setattr__"))) (mk : PySem.W.makesIn K C = true) (kp : PySem.W.keepIn K (.ref C) = true)
    (ha : PySem.W.findIn K (.ref C) "__class__" = some (some (.builtin "object.__class__"))) (hn : PySem.W.specialIn K (.builtin "object.__class__") "__get__" = some (some (.builtin "getset_descriptor.__get__")))
    (htk : PySem.W.takesIn K (.builtin "object.__class__") = some true) (hm : PySem.W.mroIn K C (.type "object") = some true) : ClF K mg x C :=
  ⟨PySem.W.mg_of X G a, mk, kp, ⟨⟨pg, hd, po, sa⟩, ha, hn, htk, hm, if_pos (beq_self_eq_true _)⟩⟩
theorem with_cls {K : PySem.W.Frag} {h : Heap} {mg : Str → Option Value} (_ : K.In h) (x : Str) {C : Addr} {R : Prop} (d : ClF K mg x C) (r : ClF K mg x C → R) : R := r d
theorem with_met {K : PySem.W.Frag} {mg : Str → Option Value} {x : Str} {C : Addr} (_ : ClF K mg x C) (m q : Str) (st : Stmt) (ps : List Str) {R : Prop} (d : MetF K C m q st ps) (r : MetF K C m q st ps → R) : R := r d
section
variable {P : Program} {w : World} {K : PySem.W.Frag} {mg : Str → Option Value} {base : Heap} {x : Str} {C : Addr}
theorem metF {m q : Str} {st : Stmt} {N ps : List Str} {k : Nat} {sp : Sp} (c : ClF K mg x C) (D : MetF K C m q st ps) (S : FnScope N ps (C8.fnScope st))
    (len : ∀ vs H Q E, sp vs H Q E → vs.length = ps.length)
    (hbody : ∀ (f : Addr) (cdv : Value) (A : Around) (outer : List Env) (s : Shared) (H : Hp) (vs : List V) (Q : VK) (E : XK), Room k (A.deeper (envOfC q (C8.fnScope st) s.heap.objs.size f cdv)) → sp vs H Q E →
      ∃ t, PSs (cxOf C8.CX0 P w K mg base N q (C8.fnScope st) f cdv A outer s H E).nox (C8.fnBody st) t ∧ t { nx := fun _ H' => Q .non H', rt := Q } (start N vs) H) : C8.Met P w K mg base (k + 1) C m sp [] := by
  obtain ⟨f, fd, F, me, b⟩ := D.ex
  exact C8.met0 c.ins.cl me F b S len (hbody f)
theorem makF {q : Str} {st : Stmt} {N ps : List Str} {k : Nat} {sp : Sp} (c : ClF K mg x C) (D : MetF K C "__init__" q st ps) (S : FnScope N ps (C8.fnScope st))
    (len : ∀ vs H Q E, sp vs H Q E → vs.length = ps.length)
    (hbody : ∀ (f : Addr) (cdv : Value) (A : Around) (outer : List Env) (s : Shared) (H : Hp) (vs : List V) (Q : VK) (E : XK), Room k (A.deeper (envOfC q (C8.fnScope st) s.heap.objs.size f cdv)) → sp vs H Q E →
      ∃ t, PSs (cxOf C8.CX0 P w K mg base N q (C8.fnScope st) f cdv A outer s H E).nox (C8.fnBody st) t ∧ t { nx := fun _ H' => Q .non H', rt := Q } (start N vs) H) : C8.Mak P w K mg base (k + 1) x C sp [] := by
  obtain ⟨f, fd, F, me, b⟩ := D.ex
  exact C8.mak0 ⟨c.makes, me.at_, me.fn, c.kp⟩ c.mgC F b .nil S len (hbody f)
end
end CK
namespace CK
open PySem L2
theorem noA {K : PySem.W.Frag} {mg : Str → Option Value} {x : Str} {C : Addr} (_ : ClF K mg x C) (f : Str) (h : PySem.W.findIn K (.ref C) f = some none) : NoAttr K C f := h
end CK

set_option Elab.async false
set_option linter.all false
set_option maxRecDepth 100000
set_option maxHeartbeats 2000000
/-! texts by their code points -/
namespace CK
open PySem PySem.Spec PyProof.Rows L2 SX
theorem rev_S (z : List Nat) : (⟨((Builtin.Str.strSliceIndices none none (-1) (S z).length).filterMap ((S z).cps[·]?)).toArray⟩ : Str) = S z.reverse := by
  refine TL.ext_tl ?_
  show ((Builtin.Str.strSliceIndices none none (-1) (S z).length).filterMap ((S z).cps[·]?)).toArray.toList = z.reverse
  rw [List.toList_toArray, S_len, picked_rev, filterMap_get, List.map_map]
  · refine List.ext_getElem (by simp) fun i h1 h2 => ?_
    have hi : i < z.length := by simpa using h1
    rw [List.getElem_map, List.getElem_range, List.getElem_reverse]
    show (S z).cps.getD (z.length - 1 - i) 0 = _
    have : z.length - 1 - i < z.length := by omega
    simp [Array.getD, S, this]
  · intro i hi
    obtain ⟨k, hk, rfl⟩ := List.mem_map.mp hi
    have := List.mem_range.mp hk
    show z.length - 1 - k < z.length
    omega
section
variable {X : Cx}
/-- s[::-1] -/
def tRevS (te : TE) : TE := fun σ H Q => te σ H fun x H1 => ∃ z : List Nat, x = .str (S z) ∧ z.length ≤ sizeLine ∧ Q (.str (S z.reverse)) H1
theorem pe_revS {e : Expr} {te : TE} {k : Nat} {p1 p2 p3 pos : Pos} (he : PE X e te) : PE X (.Subscript e (.Slice none none (some (.UnaryOp .USub (.Constant (.int 1) k p1) p2)) p3) pos) (tRevS te) := by
  refine ⟨fun pins s σ H Q I h => ?_⟩
  refine Subscript_ (thn (he.run pins s σ H _ I h) fun v s1 ⟨x, H1, I1, r1, q1⟩ => ?_)
  obtain ⟨z, ex, hz, q⟩ := q1
  subst ex
  obtain ⟨t, rfl⟩ := r1
  have hst : PO X (some (.UnaryOp .USub (.Constant (.int 1) k p1) p2)) (tPart (tUn (rU fun i => .int (-i)) (tC (.int 1)))) := po_some (pe_un un_neg pe_int)
  refine wpAny_Slice (thn (po_none.run pins s1 σ H1 (fun o H2 => o = none ∧ H2 = H1) I1 ⟨rfl, rfl⟩) fun vl s2 ⟨l, H2, I2, pl, el, e2⟩ => ?_)
  subst el e2
  refine thn (po_none.run pins s2 σ H2 (fun o H3 => o = none ∧ H3 = H2) I2 ⟨rfl, rfl⟩) fun vu s3 ⟨u, H3, I3, pu, eu, e3⟩ => ?_
  subst eu e3
  refine thn (hst.run pins s3 σ H3 (fun o H4 => o = some (-1) ∧ H4 = H3) I3 ⟨1, rfl, -1, rfl, rfl, rfl⟩) fun vs s4 ⟨o, H4, I4, ps, eo, e4⟩ => ?_
  subst eo e4
  have I5 : Inv X pins σ H4 { s4 with heap := s4.heap.push { cls := .type "slice", data := .fields #[vl, vu, vs] } } := I4.kept (t' := s4.toks) fun b ob q => Heap.get?_push_of_some _ q
  show wpAny (model X.prog X.w) X.A (subscriptTail e (.Slice none none (some (.UnaryOp .USub (.Constant (.int 1) k p1) p2)) p3) (.str (S z) t) (.ref s4.heap.objs.size)) (EP X pins σ Q) X.xe { s4 with heap := s4.heap.push { cls := .type "slice", data := .fields #[vl, vu, vs] } }
  refine tail_any (ops := [.str (S z) t, .ref s4.heap.objs.size]) (typeIs_str _ _ _) F.slot_str_getitem.lookup ?_ (by with_unfolding_all rfl)
  obtain ⟨l, rfl, el⟩ := IsPart.raw pl
  obtain ⟨u, rfl, eu⟩ := IsPart.raw pu
  obtain ⟨st, rfl, es⟩ := IsPart.raw ps
  refine wpAny_getItem_str_slice (l := l) (u := u) (st := st) ⟨_, Heap.get?_push_size _ rfl, rfl, rfl⟩ (by rw [es]; decide) ?_
  unfold sliceMade slicePicked
  rw [es, el, eu]
  have hr := rev_S z
  show Made.post (.str ⟨((Builtin.Str.strSliceIndices none none (-1) (S z).length).filterMap ((S z).cps[·]?)).toArray⟩) _ _
  rw [hr]
  exact ⟨by rw [S_len, List.length_reverse]; exact hz, .str _, H4, I5.tok _, ⟨_, rfl⟩, q⟩
/-- s * n -/
theorem foldl_arr {α : Type} : ∀ (n : Nat) (w : Array α) (acc : Array α), ((List.replicate n w).foldl (fun a b => a ++ b) acc).toList = acc.toList ++ (List.replicate n w.toList).flatten
  | 0, _, _ => by simp
  | n + 1, w, acc => by
    rw [List.replicate_succ, List.foldl_cons, foldl_arr n w (acc ++ w), List.replicate_succ, List.flatten_cons, Array.toList_append, List.append_assoc]
theorem op_repS : OpR X (binaryOp .Mult) (fun x y H Q => ∃ (z : List Nat) (n : Nat), x = .str (S z) ∧ y = .int n ∧ n ≤ 1000 ∧ z.length ≤ 1000 ∧ Q (.str (S (List.replicate n z).flatten)) H) := by
  intro pins s σ H x y v u Q I rx ry h
  obtain ⟨z, n, rfl, rfl, hn, hz, q⟩ := h
  obtain ⟨t, rfl⟩ := rx
  obtain ⟨t', rfl⟩ := ry
  have hl : (List.replicate n z).flatten.length = n * z.length := by simp
  have hm : n * z.length ≤ 1000 * 1000 := Nat.mul_le_mul hn hz
  refine P.mul_str (by simp; omega) (fun h1 h2 => ?_) (fun h1 h2 => ?_) ?_
  · rw [S_len]
    have hn0 : (0 : Int) < n := by omega
    have h3 : (1000 : Int) ≤ (2 ^ 63 - 1) / (n : Int) := by
      refine (Int.le_ediv_iff_mul_le hn0).mpr ?_
      have : (1000 : Int) * n ≤ 1000 * 1000 := Int.mul_le_mul_of_nonneg_left (by omega) (by decide)
      omega
    omega
  · rw [S_len, Int.toNat_natCast, Nat.mul_comm]
    have : n * z.length ≤ sizeLine := by rw [sizeLine_eq]; omega
    unfold Builtin.Str.tooLong
    simp
    omega
  · by_cases h1 : (n : Int) < 1
    · rw [if_pos h1]
      have e : n = 0 := by omega
      subst e
      exact ⟨by decide, .str _, H, I.tok _, ⟨_, rfl⟩, q⟩
    · rw [if_neg h1]
      by_cases h2 : ((n : Int) == 1 || (S z).length == 0) = true
      · rw [if_pos h2]
        have e : (List.replicate n z).flatten = z := by
          rw [Bool.or_eq_true, beq_iff_eq, beq_iff_eq, S_len] at h2
          rcases h2 with h2 | h2
          · have : n = 1 := by omega
            subst this
            simp
          · rw [List.length_eq_zero_iff.mp h2]
            simp
        rw [e] at q
        exact ⟨.str _, H, I, ⟨_, rfl⟩, q⟩
      · rw [if_neg h2]
        have e : (⟨(List.replicate (n : Int).toNat (S z).cps).foldl (· ++ ·) #[]⟩ : Str) = S (List.replicate n z).flatten := by
          refine TL.ext_tl ?_
          show ((List.replicate (n : Int).toNat (S z).cps).foldl (· ++ ·) #[]).toList = _
          rw [Int.toNat_natCast, foldl_arr]
          rfl
        rw [e]
        exact ⟨by rw [S_len, hl, sizeLine_eq]; omega, .str _, H, I.tok _, ⟨_, rfl⟩, q⟩
/-- a % b, a // b of natural numbers -/
theorem fmodN (k n : Nat) : Int.fmod (k : Int) (n : Int) = ((k % n : Nat) : Int) := by
  rw [Int.fmod_eq_emod_of_nonneg _ (by omega)]
  rfl
theorem op_modZ : OpR X (binaryOp .Mod) (fun x y H Q => ∃ (k n : Nat), x = .int k ∧ y = .int n ∧ n ≠ 0 ∧ Q (.int ((k % n : Nat) : Int)) H) := by
  intro pins s σ H x y v u Q I rx ry h
  obtain ⟨k, n, e1, e2, h0, q⟩ := h
  refine op_modN pins s σ H x y v u Q I rx ry ⟨_, _, e1, e2, by omega, ?_⟩
  rw [← fmodN] at q
  exact q
theorem op_fdivZ : OpR X (binaryOp .FloorDiv) (fun x y H Q => ∃ (k n : Nat), x = .int k ∧ y = .int n ∧ n ≠ 0 ∧ n < 2 ^ 29 ∧ Q (.int ((k / n : Nat) : Int)) H) := by
  intro pins s σ H x y v u Q I rx ry h
  obtain ⟨k, n, e1, e2, h0, h1, q⟩ := h
  refine op_fdivN pins s σ H x y v u Q I rx ry ⟨_, _, e1, e2, ⟨by omega, by omega⟩, ?_⟩
  have : Int.fdiv (k : Int) (n : Int) = ((k / n : Nat) : Int) := by
    rw [Int.fdiv_eq_ediv_of_nonneg _ (by omega)]
    rfl
  rw [← this] at q
  exact q
theorem op_mulZ : OpR X (binaryOp .Mult) (fun x y H Q => ∃ (k n : Nat), x = .int k ∧ y = .int n ∧ k < 2 ^ 1000 ∧ n < 2 ^ 1000 ∧ Q (.int ((k * n : Nat) : Int)) H) := by
  intro pins s σ H x y v u Q I rx ry h
  obtain ⟨k, n, e1, e2, h0, h1, q⟩ := h
  refine op_mulW pins s σ H x y v u Q I rx ry ⟨_, _, e1, e2, wide_mul (a := 1000) (b := 1000) h0 h1 (by decide) (by decide) (by decide), ?_⟩
  rw [Int.natCast_mul] at q
  exact q
/-- len of a list that is tracked (it may stand in a comprehension) -/
theorem call_lenH : CallR X (.builtin "len") (fun xs H Q => ∃ (p : Addr) (ys : List V), xs = [.ref p] ∧ H p = some (.lst ys) ∧ Q (.int (ys.length : Nat)) H) := by
  intro pins s σ H xs us Q I r h
  obtain ⟨p, ys, e, hp, q⟩ := h
  exact call_len_seq pins s σ H xs us Q I r ⟨p, ys, e, .inl (.inl (.inl hp)), q⟩
end
end CK

set_option Elab.async false
set_option linter.all false
set_option maxRecDepth 100000
set_option maxHeartbeats 2000000
/-! any of a tuple of numbers -/
namespace CK
open PySem PySem.Spec PyProof.Rows L2 SX
theorem plain_ints : ∀ ns : List Int, PyData.plainAll (ns.map PyData.int) = true
  | [] => by simp [PyData.plainAll]
  | n :: ns => by
    rw [List.map_cons, PyData.plainAll, plain_ints ns]
    simp [PyData.plain]
theorem any_ints (ns : List Nat) : ((ns.map fun n : Nat => ((n : Nat) : Int)).map PyData.int).any PyData.truthy = ns.any fun x => decide (x ≠ 0) := by
  induction ns with
  | nil => rfl
  | cons n ns ih =>
    rw [List.map_cons, List.map_cons, List.any_cons, List.any_cons, ih]
    congr 1
    show ((n : Int) != 0) = decide (n ≠ 0)
    by_cases h : n = 0
    · subst h
      rfl
    · rw [decide_eq_true h, bne_iff_ne]
      omega
section
variable {X : Cx}
theorem cr_anyN (hc : X.calm = true) : CallR X (.builtin "any") (fun vs H Q => ∃ (a : Addr) (ns : List Nat), vs = [V.ref a] ∧ H a = some (.tup (ns.map fun n : Nat => V.int (n : Nat))) ∧ Q (.bl (ns.any fun x => decide (x ≠ 0))) H) := by
  intro pins s σ H vs us Q I r h
  obtain ⟨a, ns, rfl, ha, q⟩ := h
  obtain ⟨its, rv, hT, _⟩ := I.tuple (.inl (.inl ha))
  rw [Vals.ref1 r]
  have e : (ns.map fun n : Nat => V.int (n : Nat)) = (ns.map fun n : Nat => ((n : Nat) : Int)).map V.int := by
    rw [List.map_map]
    rfl
  rw [e] at rv
  obtain ⟨as, hr⟩ := Dp.readsAll I _ _ its (dpAll_ints _) rv
  refine PySem.W.any_tuple_data (I.ok.hd hc) hT (by rw [List.toList_toArray]; exact hr) (plain_ints _) (fun x hx => ?_) fun h' tk hk => ?_
  · obtain ⟨i, _, rfl⟩ := List.mem_map.mp hx
    trivial
  · rw [any_ints]
    exact ⟨.bl _, H, I.kept (t' := tk) hk, rfl, q⟩
end
end CK
namespace CK
open PySem PySem.Spec PyProof.Rows L2 SX
section
variable {X : Cx}
/-- a whole number and a Boolean -/
theorem op_addB : OpR X (binaryOp .Add) (fun x y H Q => ∃ (i : Int) (b : Bool), x = .int i ∧ y = .bl b ∧ Q (.int (i + if b = true then (1 : Int) else 0)) H) := by
  intro pins s σ H x y v u Q I rx ry h
  obtain ⟨i, b, rfl, rfl, q⟩ := h
  obtain ⟨t, rfl⟩ := rx
  obtain rfl : u = Value.bool b := ry
  exact add_int_bool ⟨.int _, H, I.tok _, ⟨_, rfl⟩, q⟩
end
end CK
namespace CK
open PySem PySem.Spec PyProof.Rows L2 SX
theorem vals_of_get : ∀ (vs : List V) (us : List Value), us.length = vs.length → (∀ (j : Nat) (v : V) (u : Value), vs[j]? = some v → us[j]? = some u → RelV v u) → Vals vs us
  | [], [], _, _ => .nil
  | [], _ :: _, h, _ => by simp at h
  | _ :: _, [], h, _ => by simp at h
  | v :: vs, u :: us, h, g => .cons (g 0 v u rfl rfl) (vals_of_get vs us (by simpa using h) fun j a b ha hb => g (j + 1) a b (by simpa using ha) (by simpa using hb))
section
variable {X : Cx}
/-- list(text): its letters -/
theorem call_listS (hc : X.calm = true) : CallR X (.type "list") (fun xs H Q => ∃ z : List Nat, xs = [.str (S z)] ∧ z.length ≤ 1000000 ∧ ∀ l, H l = none → Q (.ref l) (upd H l (.lst (z.map fun c => V.str (S [c]))))) := by
  intro pins s σ H xs us Q I r h
  obtain ⟨z, rfl, hz, q⟩ := h
  obtain ⟨u, rfl, rx⟩ := vals1 r
  obtain ⟨t, rfl⟩ := rx
  have sz : (S z).cps.size = z.length := S_len z
  refine call_list_str (I.ok.hd hc) (S z) t (fun h' tk acc' c' hk hS hacc => ?_) (by rw [sz, sizeLine_eq]; omega)
  refine ⟨.ref s.heap.objs.size, upd H s.heap.objs.size (.lst (z.map fun c => V.str (S [c]))), I.laid (t' := tk) hk (Nat.le_refl _) ?_, rfl, q _ (I.hok.fresh (Nat.le_refl _))⟩
  refine ⟨by rw [List.length_map, sizeLine_eq]; omega, acc'.toList, c', vals_of_get _ _ (by rw [List.length_map, Array.length_toList, hacc.1, sz]) fun j v u hv hu => ?_, by simpa using hS⟩
  obtain ⟨c, tt, hc', rfl⟩ := hacc.2 j u (by simpa using hu)
  rw [List.getElem?_map] at hv
  have e : z[j]? = some c := by
    have : (S z).cps[j]? = some c := hc'
    simpa [S] using this
  rw [e] at hv
  cases hv
  exact ⟨tt, rfl⟩
end
end CK
namespace CK
open PySem PySem.Spec PyProof.Rows L2 SX
section
variable {X : Cx} {o e : Expr} {es : List Expr} {to : TE} {t : TA} {name : Str} {apos cpos : Pos} {T id : String} {r : V → List V → Hp → VK → Prop}
/-- a built-in's method, where the written part is told apart (it may stand in a comprehension) -/
theorem pe_bmB {K : PySem.W.Frag} (hK : X.K = K) (pa : PlainAttrs T) (slot : Slot T name id) (hty : typeOf (.builtin id) = pure (.type "method_descriptor")) (hm : MtR X id r) (ho : PE X o to) (ha : PA X (e :: es) t)
    (hb : attributeBase o name X.env (eval o X.env) = eval o X.env := by rfl)
    (hf : ((backTo cpos (starEach (e :: es) X.env)).all (fun x => !x.1) && (backToKw cpos (keywordEach [] X.env)).all (fun x => x.1.isSome) && decide ((e :: es).length + ([] : List Keyword).length + (if ([] : List Keyword).isEmpty then 0 else 1) < 30)) = true := by rfl)
    (hl : (apos.endLine == cpos.line) = true := by rfl) (hs : starEach (e :: es) X.env = (false, eval e X.env) :: starEach es X.env := by rfl) (hp : (backTo cpos (starEach es X.env)).any (·.1) = false := by rfl) :
    PE X (.Call (.Attribute o name apos) (e :: es) [] cpos) (tBM K T r to t) := by
  subst hK
  exact pe_bm pa slot hty hm ho ha hb hf hl hs hp
end
end CK

set_option Elab.async false
set_option linter.all false
set_option maxRecDepth 100000
set_option maxHeartbeats 2000000
/-! defs that are called with no repr under way; repr of data -/
namespace CK
open PySem PySem.Spec PyProof.Rows L2
/-- what a def promises where no repr is under way -/
structure FnG (P : Program) (w : World) (K : PySem.W.Frag) (mg : Str → Option Value) (base : Heap) (k : Nat) (f : Addr) (fd : FuncData) (ps : List Str) (sp : Sp) : Prop where
  len : ∀ vs H Q E, sp vs H Q E → vs.length = ps.length
  go : ∀ (A : Around) (outer : List Env) (z : Shared) (H : Hp) (args : Args) (us : List Value) (vs : List V) (Q : VK) (E : XK), Room k A → A.guards = some [] → Env0 P w K mg base A outer z H → BindsTo z fd args (ps.zip us) →
    Vals vs us → sp vs H Q E → codeAny (model P w) A (.call (.ref f) args) (CR C8.CX0 outer P w H z Q E) z
theorem FnG.of {P : Program} {w : World} {K : PySem.W.Frag} {mg : Str → Option Value} {base : Heap} {k : Nat} {f : Addr} {fd : FuncData} {ps : List Str} {sp : Sp} (F : FnOk P w K mg base C8.CX0 k f fd ps sp) : FnG P w K mg base k f fd ps sp :=
  ⟨F.len, fun A outer z H args us vs Q E hr _ e0 hb r h => F.run A outer z H args us vs Q E hr e0 hb r h⟩
theorem fnG_of {P : Program} {w : World} {K : PySem.W.Frag} {mg : Str → Option Value} {base : Heap} {k : Nat} {f : Addr} {x : Str} {st : Stmt} {fd : FuncData} {N ps : List Str} {sp : Sp} (F : C8.Fun K x x st f fd) (S : FnScope N ps (C8.fnScope st))
    (len : ∀ vs H Q E, sp vs H Q E → vs.length = ps.length)
    (body : ∀ (cdv : Value) (A : Around) (outer : List Env) (z : Shared) (H : Hp) (vs : List V) (Q : VK) (E : XK), Room k (A.deeper (envOfC x (C8.fnScope st) z.heap.objs.size f cdv)) → A.guards = some [] → sp vs H Q E →
      ∃ t, PSs (cxOf C8.CX0 P w K mg base N x (C8.fnScope st) f cdv A outer z H E).nox (C8.fnBody st) t ∧ t { nx := fun _ H' => Q .non H', rt := Q } (start N vs) H) : FnG P w K mg base (k + 1) f fd ps sp := by
  obtain ⟨_, _, _, _, _, _, _, cdv, _, _, rfl, lk, hc⟩ := F.ex
  refine ⟨len, fun A outer z H args us vs Q E room gd en bnd va want => ?_⟩
  have ln := len _ _ _ _ want
  have up : ∀ b o, base.get? b = some o → z.heap.get? b = some o := fun b o e => (en.bs b o e).1
  have inK : K.In z.heap := en.mod.kin.keeps up
  have kinds : ∀ y ∈ ps.zip us, (C8.fnScope st).names.lookup y.1 = some .local ∨ ((C8.fnScope st).names.lookup y.1 = some .cell ∧ ((cellsFrom (z.heap.objs.size + 1) (C8.fnScope st).names []).lookup y.1).isSome = true) := by
    intro y hy
    have := S.par y.1 (List.of_mem_zip (a := y.1) (b := y.2) hy).1
    cases this with
    | inl a => exact .inl a
    | inr a => exact .inr ⟨a, PySem.W.cellsFrom_some _ _ _ (.inl a)⟩
  refine codeAny_call_function room.depth (inK _ _ lk) rfl S.co S.gen rfl (PySem.W.codeRec_of inK hc) (bnd _ _ _ _ (wpAny_newFunctionEnv_cells S.kind kinds fun env he z1 call => ?_))
  subst he
  refine ⟨(en.mod.nolimit.keeps up).keeps call.toInCall.keep, codeAny_func ?_⟩
  obtain ⟨t, ht, ok⟩ := body cdv A outer z H vs Q E (room.deeper _) gd want
  refine wpAny_mono (ht.nox.run [] z1 (start N vs) H _ (inv_start S room.hd en ln va call) ok) (fun fl z' got => ?_) fun e z' got => got
  have last : ∀ {σ' : L2.St} {H' : Hp} {v : V} {u : Value}, Inv (cxOf C8.CX0 P w K mg base N x (C8.fnScope st) f cdv A outer z H E) [] σ' H' z' → RelV v u → Q v H' → CE outer P w H z Q u z' :=
    fun {_ H' v _} J a b => ⟨v, H', J.os, J.bare, J.base, J.hok, a, b⟩
  cases fl with
  | ret u =>
    obtain ⟨v, _, H', J, a, b⟩ := got
    exact last J a b
  | next =>
    obtain ⟨_, H', J, b⟩ := got
    exact last (v := V.non) (u := Value.none) J rfl b
  | brk => exact got.choose_spec.choose_spec.2.elim
  | cont => exact got.choose_spec.choose_spec.2.elim
/-- a def by its name -/
structure CalG (P : Program) (w : World) (K : PySem.W.Frag) (mg : Str → Option Value) (base : Heap) (k : Nat) (x : Str) (sp : Sp) : Prop where
  ex : ∃ (f : Addr) (fd : FuncData) (ps : List Str), FnG P w K mg base k f fd ps sp ∧ mg x = some (.ref f) ∧ PySem.W.keepIn K (.ref f) = true ∧ Binds K fd ps []
theorem calG {P : Program} {w : World} {K : PySem.W.Frag} {mg : Str → Option Value} {base : Heap} {x : Str} {st : Stmt} {N ps : List Str} {k : Nat} {sp : Sp} (D : DefF K mg x st ps) (S : FnScope N ps (C8.fnScope st))
    (len : ∀ vs H Q E, sp vs H Q E → vs.length = ps.length)
    (body : ∀ (f : Addr) (cdv : Value) (A : Around) (outer : List Env) (z : Shared) (H : Hp) (vs : List V) (Q : VK) (E : XK), Room k (A.deeper (envOfC x (C8.fnScope st) z.heap.objs.size f cdv)) → A.guards = some [] → sp vs H Q E →
      ∃ t, PSs (cxOf C8.CX0 P w K mg base N x (C8.fnScope st) f cdv A outer z H E).nox (C8.fnBody st) t ∧ t { nx := fun _ H' => Q .non H', rt := Q } (start N vs) H) : CalG P w K mg base (k + 1) x sp := by
  obtain ⟨f, fd, F, b⟩ := D.ex
  exact ⟨f, fd, ps, fnG_of F.fn S len (body f), F.mgf, F.kp, .all b⟩
section
variable {X : Cx} {k j : Nat} {x : Str} {sp : Sp} {p pos : Pos} {e : Expr} {es : List Expr} {t : TA}
theorem run_fnG {pins : List (Addr × Obj)} {σ : L2.St} {H : Hp} {z : Shared} {Q : VK} {us : List Value} {vs : List V} {f : Addr} {fd : FuncData} {ps : List Str} (F : FnG X.prog X.w X.K X.mg X.base k f fd ps sp) (room : Room k X.A) (gd : X.A.guards = some [])
    (b : Binds X.K fd ps []) (I : Inv X pins σ H z) (r : Vals vs us) (h : sp (vs ++ []) H Q E0) : wpAny (model X.prog X.w) X.A (call (.ref f) us) (EP X pins σ Q) X.xe z := by
  rw [List.append_nil] at h
  have ll : (us ++ []).length = ps.length := by
    rw [List.append_nil, ← r.length]
    exact F.len _ _ _ _ h
  have bb := b z us I.kIn ll
  rw [List.append_nil] at bb
  refine wpAny_call (codeAny_mono (F.go X.A X.stack z H ⟨us, []⟩ us vs Q E0 room gd I.env0 bb r h) fun res z' got => ?_)
  match res, got with
  | .ok (.ret u), got => exact I.after got
  | .error e, got => exact pass0 pins σ H z e z' I got
theorem pe_cG (c : CalG X.prog X.w X.K X.mg X.base k x sp) (hr : Room j X.A) (gd : X.A.guards = some []) (hk : k ≤ j) (hg : Gl X x) (ha : PA X (e :: es) t)
    (hdb : (x == ("__debug__" : Str)) = false := by decide) (he : starEach (e :: es) X.env = (false, eval e X.env) :: starEach es X.env := by rfl) (hpl : (backTo pos (starEach es X.env)).any (·.1) = false := by rfl) :
    PE X (.Call (.Name x p) (e :: es) [] pos) (tCall sp [] E0 t) := by
  obtain ⟨f, fd, ps, F, hm, kp, b⟩ := c.ex
  refine ⟨fun pins s σ H Q I h => wpAny_Call_Name_kw (ld_glob I hg hm ?_ hdb)⟩
  exact PySem.W.callWith_K (h₀ := X.base) I.ok.mod.kin kp (thn (ha.run pos pins s σ H _ I h) fun us s1 ⟨vs, H1, I1, r, q⟩ => ⟨I1.kIn, run_fnG F (hr.mono hk) gd b I1 r q⟩) he hpl
theorem pe_cG0 (c : CalG X.prog X.w X.K X.mg X.base k x sp) (hr : Room j X.A) (gd : X.A.guards = some []) (hk : k ≤ j) (hg : Gl X x)
    (hdb : (x == ("__debug__" : Str)) = false := by decide) :
    PE X (.Call (.Name x p) [] [] pos) (tCall sp [] E0 tNil) := by
  obtain ⟨f, fd, ps, F, hm, kp, b⟩ := c.ex
  refine ⟨fun pins s σ H Q I h => wpAny_Call_Name_kw (ld_glob I hg hm ?_ hdb)⟩
  exact PySem.W.callWith_K0 I.kIn kp (run_fnG (us := []) F (hr.mono hk) gd b I .nil h)
/-- repr of data -/
theorem call_repr (hr : Room j X.A) (gd : X.A.guards = some []) : CallR X (.builtin "repr") (fun xs H Q => ∃ (v : V) (d : PyData), xs = [v] ∧ Dp X.K H v d ∧ d.showable = true ∧ d.hasDict = false ∧ d.depth ≤ 60 ∧ d.shown.length ≤ sizeLine ∧ Q (.str d.shown) H) := by
  intro pins s σ H xs us Q I r h
  obtain ⟨v, d, rfl, dp, hs, hd, hdep, hz, q⟩ := h
  obtain ⟨u, rfl, rx⟩ := vals1 r
  obtain ⟨as, rd⟩ := Dp.reads I d v u dp rx
  have hu := hr.units
  have fin : ∀ (a : Addr) (d : PyData), Reads s.heap (.ref a) d as → d.showable = true → d.hasDict = false → d.depth ≤ 60 → d.shown.length ≤ sizeLine → Q (.str d.shown) H →
      wpAny (model X.prog X.w) X.A (call (.builtin "repr") [.ref a]) (EP X pins σ Q) X.xe s := fun a d rd hs hd hdep hz q =>
    repr_of_reads' rd hs (PyData.noDict_hsm hd) gd (by omega) (fun _ _ e => e) (fun h' u tk hk => ⟨.str _, H, I.kept (t' := tk) hk, ⟨u, rfl⟩, q⟩) hz
  cases rd with
  | none => exact PySem.P.repr_of_none ⟨.str _, H, I.tok _, ⟨_, rfl⟩, by simpa only [PyData.shown] using q⟩
  | bool b => exact PySem.P.repr_of_bool ⟨.str _, H, I.tok _, ⟨_, rfl⟩, by simpa only [PyData.shown] using q⟩
  | int i t => exact PySem.P.repr_of_int (by simpa [PyData.showable] using hs) ⟨.str _, H, I.tok _, ⟨_, rfl⟩, by simpa only [PyData.shown] using q⟩
  | str y t => exact PySem.P.repr_of_str ⟨.str _, H, I.tok _, ⟨_, rfl⟩, by simpa only [PyData.shown] using q⟩ (by simpa only [PyData.shown] using hz)
  | list a b c e => exact fin _ _ (.list a b c e) hs hd hdep hz q
  | tuple a b c e => exact fin _ _ (.tuple a b c e) hs hd hdep hz q
  | dict a b c e g => exact fin _ _ (.dict a b c e g) hs hd hdep hz q
end
end CK

set_option Elab.async false
set_option linter.all false
set_option maxRecDepth 100000
set_option maxHeartbeats 2000000
/-! comprehensions with a test; equality of data made of whole numbers -/
namespace CK
open PySem PySem.Spec PyProof.Rows L2
/-- n turns, each kept if b i, giving f i, leaving all that was tracked -/
theorem lc_filtW {J : It} {n : Nat} {G : Hp → Prop} {Y : Nat → Hp → V → Hp → Prop} (w : Walk J n G Y) {g : TG} {tt : TT} {te : TE} {vs : List Nat} {σ : L2.St} {H1 : Hp} {D : Addr} {Qd : Hp → Prop} (b : Nat → Bool) (f : Nat → V) (hn : n < sizeLine)
    (hG : ∀ H, Same H1 H → G H)
    (hs : ∀ (i : Nat) (x : V) (H H' : Hp) (R : VK) (R0 : Hp → Prop), i < n → Same H1 H → Y i H x H' → (b i = true → ∀ H'', Same H H'' → R (f i) H'') → (b i = false → ∀ H'', Same H H'' → R0 H'') →
      g x (wipe σ vs) H' fun σ2 H2 => wipe σ2 vs = wipe σ vs ∧ tt σ2 H2 fun c H3 => if c = true then te σ2 H3 R else R0 H3)
    (hD : H1 D = none) (hd : ∀ H : Hp, Same H1 H → H D = some (.lst (((List.range n).filter b).map f)) → Qd H) :
    ∃ W : Nat → Nat → Hp → Prop, (∃ m, W 0 m (upd H1 D (.lst []))) ∧ ∀ i m H, W i m H →
      (J.stop i H ∧ Qd H) ∨ (J.go i H ∧ ∃ Nx : Hp → Prop, (∀ H', Nx H' → ∃ m', m' < m ∧ W (i + 1) m' H') ∧ ∀ x H', J.yld i H x H' → g x (wipe σ vs) H' fun σ2 H2 => wipe σ2 vs = wipe σ vs ∧ tt σ2 H2 fun b H3 =>
        if b = true then te σ2 H3 fun y H4 => ∃ acc, H4 D = some (.lst acc) ∧ acc.length < sizeLine ∧ Nx (upd H4 D (.lst (acc ++ [y]))) else Nx H3) := by
  refine lc_it w (fun i H => Same H1 H ∧ H D = some (.lst (((List.range i).filter b).map f)) ∧ i ≤ n) ⟨sameNew hD, upd_same, Nat.zero_le _⟩ (fun i H _ p => hG H p.1) (fun i x H H' hi p y => ?_) fun H p => hd H p.1 p.2.1
  refine hs i x H H' _ _ hi p.1 y (fun hb H'' s => ?_) fun hb H'' s => ?_
  · refine ⟨_, s D _ p.2.1, ?_, same_upd2 hD (p.1.trans s), ?_, hi⟩
    · have := List.length_filter_le b (List.range i)
      rw [List.length_range] at this
      rw [List.length_map]
      omega
    · rw [upd_same, List.range_succ, List.filter_append, List.map_append, List.filter_cons_of_pos hb]
      rfl
  · refine ⟨p.1.trans s, ?_, hi⟩
    rw [s D _ p.2.1, List.range_succ, List.filter_append, List.filter_cons_of_neg (by rw [hb]; exact Bool.false_ne_true), List.filter_nil, List.append_nil]
theorem filt_nil (b : Nat → Bool) (f : Nat → V) (n : Nat) : ((List.range n).filter b).map f = [] ↔ ∀ i, i < n → b i = false := by
  rw [List.map_eq_nil_iff, List.filter_eq_nil_iff]
  constructor
  · intro h i hi
    have := h i (List.mem_range.mpr hi)
    simpa using this
  · intro h i hi
    rw [h i (List.mem_range.mp hi)]
    exact Bool.false_ne_true
/-- over zip -/
theorem lcZ_filt {K : PySem.W.Frag} {k k' : Kd} {a c : Addr} {xs ys : List V} {i1 i2 : Nat} {tt : TT} {te : TE} {vs : List Nat} {σ : L2.St} {H1 : Hp} {D : Addr} {Qd : Hp → Prop} (b : Nat → Bool) (f : Nat → V) (hl : xs.length = ys.length) (hn : xs.length < sizeLine)
    (ha : ∀ H, Same H1 H → SqB K k H a xs ∧ SqB K k' H c ys)
    (hs : ∀ (i : Nat) (x y : V) (H : Hp) (R : VK) (R0 : Hp → Prop), xs[i]? = some x → ys[i]? = some y → Same H1 H → (b i = true → ∀ H', Same H H' → R (f i) H') → (b i = false → ∀ H', Same H H' → R0 H') →
      wipe (((wipe σ vs).set i1 (some x)).set i2 (some y)) vs = wipe σ vs ∧ tt (((wipe σ vs).set i1 (some x)).set i2 (some y)) H fun c H3 => if c = true then te (((wipe σ vs).set i1 (some x)).set i2 (some y)) H3 R else R0 H3)
    (hD : H1 D = none) (hd : ∀ H : Hp, Same H1 H → H D = some (.lst (((List.range xs.length).filter b).map f)) → Qd H) :
    ∃ W : Nat → Nat → Hp → Prop, (∃ m, W 0 m (upd H1 D (.lst []))) ∧ ∀ i m H, W i m H →
      ((ItB K k k' a c).stop i H ∧ Qd H) ∨ ((ItB K k k' a c).go i H ∧ ∃ Nx : Hp → Prop, (∀ H', Nx H' → ∃ m', m' < m ∧ W (i + 1) m' H') ∧ ∀ x H', (ItB K k k' a c).yld i H x H' → gTup K 2 (gCons (gName i1) (gCons (gName i2) gNil)) x (wipe σ vs) H' fun σ2 H2 => wipe σ2 vs = wipe σ vs ∧ tt σ2 H2 fun b H3 =>
        if b = true then te σ2 H3 fun y H4 => ∃ acc, H4 D = some (.lst acc) ∧ acc.length < sizeLine ∧ Nx (upd H4 D (.lst (acc ++ [y]))) else Nx H3) := by
  refine lc_filtW (walkB (K := K) (k := k) (k' := k') (a := a) (b := c) hl) b f hn ha (fun i v H H' R R0 hi s y q q0 => ?_) hD hd
  obtain ⟨T, x, y, rfl, hT, rfl, hx, hy⟩ := y
  have hx : xs[i]? = some x := hx
  have hy : ys[i]? = some y := hy
  have st : Same H (upd H T (.tup [x, y])) := sameNew hT
  exact ⟨T, [x, y], rfl, .inl (.inl upd_same), rfl, x, [y], rfl, y, [], rfl, rfl, hs i x y _ R R0 hx hy (s.trans st) (fun hb H'' s' => q hb H'' (st.trans s')) fun hb H'' s' => q0 hb H'' (st.trans s')⟩
/-- over a list -/
theorem lcL_filt {K : PySem.W.Frag} {a : Addr} {xs : List V} {j : Nat} {tt : TT} {te : TE} {vs : List Nat} {σ : L2.St} {H1 : Hp} {D : Addr} {Qd : Hp → Prop} (b : Nat → Bool) (f : Nat → V) (ha : ∀ H, Same H1 H → SqL K H a xs) (hn : xs.length < sizeLine)
    (hs : ∀ (i : Nat) (x : V) (H : Hp) (R : VK) (R0 : Hp → Prop), xs[i]? = some x → Same H1 H → (b i = true → ∀ H', Same H H' → R (f i) H') → (b i = false → ∀ H', Same H H' → R0 H') →
      wipe ((wipe σ vs).set j (some x)) vs = wipe σ vs ∧ tt ((wipe σ vs).set j (some x)) H fun c H3 => if c = true then te ((wipe σ vs).set j (some x)) H3 R else R0 H3)
    (hD : H1 D = none) (hd : ∀ H : Hp, Same H1 H → H D = some (.lst (((List.range xs.length).filter b).map f)) → Qd H) :
    ∃ W : Nat → Nat → Hp → Prop, (∃ m, W 0 m (upd H1 D (.lst []))) ∧ ∀ i m H, W i m H →
      ((Itl K a).stop i H ∧ Qd H) ∨ ((Itl K a).go i H ∧ ∃ Nx : Hp → Prop, (∀ H', Nx H' → ∃ m', m' < m ∧ W (i + 1) m' H') ∧ ∀ x H', (Itl K a).yld i H x H' → gName j x (wipe σ vs) H' fun σ2 H2 => wipe σ2 vs = wipe σ vs ∧ tt σ2 H2 fun b H3 =>
        if b = true then te σ2 H3 fun y H4 => ∃ acc, H4 D = some (.lst acc) ∧ acc.length < sizeLine ∧ Nx (upd H4 D (.lst (acc ++ [y]))) else Nx H3) := by
  refine lc_filtW (walk_list (K := K) (a := a) (xs := xs)) b f hn ha (fun i v H H' R R0 hi s y q q0 => ?_) hD hd
  obtain ⟨rfl, hx⟩ := y
  exact hs i v H' R R0 hx s q q0
/-- over a tuple -/
theorem lcT_filt {K : PySem.W.Frag} {a : Addr} {xs : List V} {j : Nat} {tt : TT} {te : TE} {vs : List Nat} {σ : L2.St} {H1 : Hp} {D : Addr} {Qd : Hp → Prop} (b : Nat → Bool) (f : Nat → V) (ha : ∀ H, Same H1 H → SqT K H a xs) (hn : xs.length < sizeLine)
    (hs : ∀ (i : Nat) (x : V) (H : Hp) (R : VK) (R0 : Hp → Prop), xs[i]? = some x → Same H1 H → (b i = true → ∀ H', Same H H' → R (f i) H') → (b i = false → ∀ H', Same H H' → R0 H') →
      wipe ((wipe σ vs).set j (some x)) vs = wipe σ vs ∧ tt ((wipe σ vs).set j (some x)) H fun c H3 => if c = true then te ((wipe σ vs).set j (some x)) H3 R else R0 H3)
    (hD : H1 D = none) (hd : ∀ H : Hp, Same H1 H → H D = some (.lst (((List.range xs.length).filter b).map f)) → Qd H) :
    ∃ W : Nat → Nat → Hp → Prop, (∃ m, W 0 m (upd H1 D (.lst []))) ∧ ∀ i m H, W i m H →
      ((Itt K a).stop i H ∧ Qd H) ∨ ((Itt K a).go i H ∧ ∃ Nx : Hp → Prop, (∀ H', Nx H' → ∃ m', m' < m ∧ W (i + 1) m' H') ∧ ∀ x H', (Itt K a).yld i H x H' → gName j x (wipe σ vs) H' fun σ2 H2 => wipe σ2 vs = wipe σ vs ∧ tt σ2 H2 fun b H3 =>
        if b = true then te σ2 H3 fun y H4 => ∃ acc, H4 D = some (.lst acc) ∧ acc.length < sizeLine ∧ Nx (upd H4 D (.lst (acc ++ [y]))) else Nx H3) := by
  refine lc_filtW (walk_tup (K := K) (a := a) (xs := xs)) b f hn ha (fun i v H H' R R0 hi s y q q0 => ?_) hD hd
  obtain ⟨rfl, hx⟩ := y
  exact hs i v H' R R0 hx s q q0
/-- a tuple of the module's own -/
theorem tupF {K : PySem.W.Frag} {h : Heap} {mg : Str → Option Value} {x : Str} {f : Addr} {o : Obj} {its : Array Value} {n : Nat} {xs : List V} (X : K.In h) (G : h.Ns mainGlobals mg) (a : PySem.W.nsIn K mainGlobals x = some (some (.ref f))) (l : K.lookup f = some o)
    (hc : o.cls = .type "tuple") (hd : o.data = .seq its n) (hs : its.size ≤ sizeLine) (hv : Vals xs its.toList) : ∃ a, mg x = some (.ref a) ∧ ∀ H, SqT K H a xs :=
  ⟨f, PySem.W.mg_of X G a, fun H => .inr ⟨o, its, n, l, hc, hd, hs, hv⟩⟩
abbrev TupF (K : PySem.W.Frag) (mg : Str → Option Value) (x : Str) (xs : List V) : Prop := ∃ a, mg x = some (.ref a) ∧ ∀ H, SqT K H a xs
theorem with_tup {K : PySem.W.Frag} {h : Heap} {mg : Str → Option Value} (_ : K.In h) (x : Str) (xs : List V) {R : Prop} (d : TupF K mg x xs) (r : TupF K mg x xs → R) : R := r d
/-! data of whole numbers -/
theorem eqvAll_ints : ∀ f g : List Int, PyData.eqvAll (f.map PyData.int) (g.map PyData.int) = decide (f = g)
  | [], [] => by simp [PyData.eqvAll]
  | [], _ :: _ => by simp [PyData.eqvAll]
  | _ :: _, [] => by simp [PyData.eqvAll]
  | x :: f, y :: g => by
    rw [List.map_cons, List.map_cons, PyData.eqvAll, eqvAll_ints f g]
    simp [PyData.eqv, Bool.beq_eq_decide_eq]
theorem eqv_dI (f g : List Int) : PyData.eqv (dI f) (dI g) = decide (f = g) := by
  unfold dI
  simp only [PyData.eqv, eqvAll_ints]
def dLI (ns : List Int) : PyData := .list (ns.map PyData.int)
theorem eqv_dLI (f g : List Int) : PyData.eqv (dLI f) (dLI g) = decide (f = g) := by
  unfold dLI
  simp only [PyData.eqv, eqvAll_ints]
theorem shaped_dLI (ns : List Int) : SeqAt.shaped (dLI ns) = true := by
  unfold SeqAt.shaped dLI
  rw [PyData.canLay0, lay_ints, PyData.depth, deep_ints]
  decide
theorem dp_lints {K : PySem.W.Frag} {H : Hp} {a : Addr} {ns : List Int} (h : H a = some (.lst (ns.map V.int))) : Dp K H (.ref a) (dLI ns) := .lst (.inl (.inl h)) (dpAll_ints ns)
/-! repr of whole numbers -/
theorem shown_ints : ∀ ns : List Int, (∀ n ∈ ns, n.natAbs.log2 < 1920) → PyData.showableAll (ns.map PyData.int) = true
  | [], _ => by simp [PyData.showableAll]
  | n :: ns, h => by
    rw [List.map_cons, PyData.showableAll, shown_ints ns fun z hz => h z (List.mem_cons_of_mem _ hz)]
    simp [PyData.showable, h n List.mem_cons_self]
theorem noDict_ints : ∀ ns : List Int, PyData.hasDictAll (ns.map PyData.int) = false
  | [] => by simp [PyData.hasDictAll]
  | n :: ns => by
    rw [List.map_cons, PyData.hasDictAll, noDict_ints ns]
    simp [PyData.hasDict]
theorem piled_ints : ∀ ns : List Int, (∀ n ∈ ns, n.natAbs.log2 < 1920) → piled (PyData.shownAll (ns.map PyData.int)) ≤ ns.length * 1923
  | [], _ => Nat.zero_le _
  | n :: ns, h => by
    have a1 := int_text_length_le (a := n) (k := 1920) (by omega) (h n List.mem_cons_self)
    have a2 := piled_ints ns fun z hz => h z (List.mem_cons_of_mem _ hz)
    have a3 : ((toString n : Str)).length = (toString n).length := PySem.ofString_length _
    have e : PyData.shown (.int n) = (toString n : Str) := by simp only [PyData.shown]
    rw [List.map_cons, PyData.shownAll, piled_cons, List.length_cons, e]
    omega
theorem show_dI {ns : List Int} (h : ∀ n ∈ ns, n.natAbs.log2 < 1920) (hl : ns.length ≤ 100) : (dI ns).showable = true ∧ (dI ns).hasDict = false ∧ (dI ns).depth ≤ 60 ∧ (dI ns).shown.length ≤ sizeLine := by
  refine ⟨?_, ?_, by rw [deep_dI]; decide, ?_⟩
  · unfold dI
    rw [PyData.showable]
    exact shown_ints ns h
  · unfold dI
    rw [PyData.hasDict]
    exact noDict_ints ns
  · unfold dI
    rw [PyData.shown]
    have := fmt_text (PyData.shownAll (ns.map PyData.int))
    have := piled_ints ns h
    have : ns.length * 1923 ≤ 100 * 1923 := Nat.mul_le_mul_right _ hl
    rw [sizeLine_eq]
    omega
theorem log_lt {n : Int} (h : n.natAbs < 2 ^ 1900) : n.natAbs.log2 < 1920 := by
  by_cases z : n.natAbs = 0
  · rw [z]
    decide
  · have := (Nat.log2_lt z).mpr h
    omega
end CK

set_option Elab.async false
set_option linter.all false
set_option maxRecDepth 100000
set_option maxHeartbeats 2000000
/-! statements in order, tests that may end the call -/
namespace CK
open PySem PySem.Spec PyProof.Rows L2
theorem seq_cut {t u : TS} {D : Ends} {σ : L2.St} {H : Hp} (Mid : L2.St → Hp → Prop) (h1 : ∀ K : L2.St → Hp → Prop, (∀ σ' H', Mid σ' H' → K σ' H') → t { D with nx := K } σ H) (h2 : ∀ σ' H', Mid σ' H' → u D σ' H') : tSeq t u D σ H := h1 _ h2
/-- a test whose answer is b: what is within, and what follows -/
theorem if_dec {c : TT} {t u : TS} {D : Ends} {σ : L2.St} {H : Hp} (b : Bool) (h : ∀ R : Bool → Hp → Prop, (∀ H', Same H H' → R b H') → c σ H R)
    (yes : b = true → ∀ H', Same H H' → t { D with nx := fun σ' H'' => u D σ' H'' } σ H') (no : b = false → ∀ H', Same H H' → u D σ H') : tSeq (tIfS c t tNext) u D σ H :=
  h _ fun H' s => by
    cases b with
    | true => exact iteT (yes rfl H' s)
    | false => exact iteF (no rfl H' s)
/-- the last test of a block -/
theorem if_end {c : TT} {t u : TS} {D : Ends} {σ : L2.St} {H : Hp} (b : Bool) (h : ∀ R : Bool → Hp → Prop, (∀ H', Same H H' → R b H') → c σ H R)
    (yes : b = true → ∀ H', Same H H' → t D σ H') (no : b = false → ∀ H', Same H H' → u D σ H') : tIfS c t u D σ H :=
  h _ fun H' s => by
    cases b with
    | true => exact iteT (yes rfl H' s)
    | false => exact iteF (no rfl H' s)
theorem if_not {c : TT} {t u : TS} {D : Ends} {σ : L2.St} {H : Hp} (h : ∀ R : Bool → Hp → Prop, (∀ H', Same H H' → R false H') → c σ H R) (r : ∀ H', Same H H' → u D σ H') : tSeq (tIfS c t tNext) u D σ H :=
  h _ fun H' s => iteF (r H' s)
theorem yes_if {σ : L2.St} {H : Hp} {A B : Hp → Prop} (h : A H) : tYes σ H fun b H3 => if b = true then A H3 else B H3 := by
  show (if true = true then A H else B H)
  exact if_pos rfl ▸ h
end CK

set_option Elab.async false
set_option linter.all false
set_option maxRecDepth 100000
set_option maxHeartbeats 2000000
/-! sum of a tuple of numbers -/
namespace CK
open PySem PySem.Spec PyProof.Rows L2 SX
section
variable {prog : Program} {w : World} {A : Around} {E : Value → Shared → Prop} {s : Shared} {l : Addr} {xs : Array (Int × Tok)}
theorem sum_tupG {Q : Value → Shared → Prop} (hh : A.handled = none) (hl : s.heap.IsTuple l (intItems xs))
    (h : ∀ h' tk t', (∀ b o, s.heap.get? b = some o → h'.get? b = some o) → Q (.int (preSum (numAt xs) xs.size) t') { s with heap := h', toks := tk }) :
    wpAny (model prog w) A (call (.builtin "sum") [.ref l]) Q E s := by
  have hlt : l < s.heap.objs.size := by obtain ⟨_, e, _⟩ := hl; exact Heap.lt_size e
  refine call_sum_walkG (wpAny_pyIter_tuple hl ?_)
  refine ⟨_, _, _, _, _, _, numAt xs, rfl, Walks.tuple (A := A.in1) hh _ l (Nat.ne_of_lt hlt) (intItems xs), ⟨⟨_, Heap.get?_push_size _ rfl, rfl, rfl⟩, hl.push _⟩, fun b hb => ?_, (fun _ _ => intItems_at), fun h' tk t' hk => ?_⟩
  · show b < (s.heap.push _).objs.size
    rw [Heap.size_push]
    rcases List.mem_cons.mp hb with rfl | hb
    · exact Nat.lt_succ_self _
    · rcases List.mem_cons.mp hb with rfl | hb
      · exact Nat.lt_succ_of_lt hlt
      · cases hb
  · have := h h' tk t' fun b o e => by
      refine hk b o (fun hm => ?_) (Heap.get?_push_of_some _ e)
      have := List.mem_singleton.mp hm
      have hb := Heap.lt_size e
      rw [this] at hb
      exact absurd hb (Nat.lt_irrefl _)
    simpa [intItems] using this
end
section
variable {X : Cx}
theorem cr_sumT (hc : X.calm = true) : CallR X (.builtin "sum") (fun vs H Q => ∃ (a : Addr) (ns : List Int), vs = [V.ref a] ∧ H a = some (.tup (ns.map V.int)) ∧ Q (.int ns.sum) H) := by
  intro pins s σ H vs us Q I r h
  obtain ⟨a, ns, rfl, ha, q⟩ := h
  obtain ⟨its, rv, hl, _⟩ := I.tuple (.inl (.inl ha))
  rw [Vals.ref1 r]
  have hi := rv.ints
  obtain ⟨xs, e⟩ := hi.allInts.items
  have hn : numsOf (intItems xs).toList = ns := by rw [← e]; exact hi.numsOf
  rw [nums_intItems] at hn
  have hl' : s.heap.IsTuple a (intItems xs) := by rw [← e]; exact hl
  refine sum_tupG (I.ok.hd hc) hl' fun h' tk t' hk => ?_
  have es : preSum (numAt xs) xs.size = ns.sum := by rw [preSum_eq, List.take_of_length_le (by simp), hn]
  rw [es]
  exact ⟨.int _, H, I.kept (t' := tk) hk, ⟨_, rfl⟩, q⟩
end
end CK

set_option Elab.async false
set_option linter.all false
set_option maxRecDepth 100000
set_option maxHeartbeats 2000000
/-! defs, methods and classes with defaults, called with keywords alone or with fewer arguments -/
namespace CK
open PySem PySem.Spec PyProof.Rows L2
/-- a def with defaults as it stands -/
structure DefD (K : PySem.W.Frag) (mg : Str → Option Value) (x : Str) (st : Stmt) (dvs : List V) (kws : List (Str × V)) : Prop where
  ex : ∃ (f : Addr) (fd : FuncData), FunD K x x (C8.fnArgs st) (C8.fnBody st) (C8.fnScope st) dvs kws f fd ∧ mg x = some (.ref f)
/-- a method with defaults -/
structure MetD (K : PySem.W.Frag) (C : Addr) (m q : Str) (st : Stmt) (dvs : List V) (kws : List (Str × V)) : Prop where
  ex : ∃ (f : Addr) (fd : FuncData), FunD K m q (C8.fnArgs st) (C8.fnBody st) (C8.fnScope st) dvs kws f fd ∧ Meth K C m f
theorem fun_of {K : PySem.W.Frag} {x q : Str} {st : Stmt} {dvs : List V} {kws : List (Str × V)} {f : Addr} {fd : FuncData} (F : FunD K x q (C8.fnArgs st) (C8.fnBody st) (C8.fnScope st) dvs kws f fd) : C8.Fun K x q st f fd := by
  obtain ⟨oc, od, dV, kV, doc, pm, an, cdv, ct, osl, rfl, lk, hcd, _, _⟩ := F.ex
  exact ⟨oc, od, dV, kV, doc, pm, an, cdv, ct, osl, rfl, lk, hcd⟩
theorem defD_mk {K : PySem.W.Frag} {h : Heap} {mg : Str → Option Value} (x : Str) (st : Stmt) (dvs : List V) (kws : List (Str × V)) {f : Addr} {od an : Option Addr} {oc dV kV dc pm cd ct : Value} {sl : Array (Option Value)}
    (X : K.In h) (G : h.Ns mainGlobals mg) (a : PySem.W.nsIn K mainGlobals x = some (some (.ref f)))
    (l : K.lookup f = some ⟨oc, od, .func (PySem.W.fnOf x x (C8.fnArgs st) (C8.fnBody st) (C8.fnScope st) dV kV dc pm an cd ct), sl⟩)
    (c : PySem.W.codeIn K cd x = true) (k : PySem.W.keepIn K (.ref f) = true) (dd : DflV K dV dvs) (kk : KwdV K kV kws) : DefD K mg x st dvs kws :=
  ⟨f, _, ⟨⟨oc, od, dV, kV, dc, pm, an, cd, ct, sl, rfl, l, c, dd, kk⟩, k⟩, PySem.W.mg_of X G a⟩
theorem metD_mk {K : PySem.W.Frag} {mg : Str → Option Value} {x : Str} {C : Addr} (_ : ClF K mg x C) (m q : Str) (st : Stmt) (dvs : List V) (kws : List (Str × V)) {f : Addr} {od an : Option Addr} {oc dV kV dc pm cd ct : Value} {sl : Array (Option Value)}
    (a : PySem.W.findIn K (.ref C) m = some (some (.ref f))) (i : PySem.W.isFn K (.ref f) = true)
    (l : K.lookup f = some ⟨oc, od, .func (PySem.W.fnOf m q (C8.fnArgs st) (C8.fnBody st) (C8.fnScope st) dV kV dc pm an cd ct), sl⟩)
    (c : PySem.W.codeIn K cd q = true) (k : PySem.W.keepIn K (.ref f) = true) (dd : DflV K dV dvs) (kk : KwdV K kV kws) : MetD K C m q st dvs kws :=
  ⟨f, _, ⟨⟨oc, od, dV, kV, dc, pm, an, cd, ct, sl, rfl, l, c, dd, kk⟩, k⟩, ⟨a, i, k⟩⟩
theorem with_defD {K : PySem.W.Frag} {h : Heap} {mg : Str → Option Value} (_ : K.In h) (x : Str) (st : Stmt) (dvs : List V) (kws : List (Str × V)) {R : Prop} (d : DefD K mg x st dvs kws) (r : DefD K mg x st dvs kws → R) : R := r d
theorem with_metD {K : PySem.W.Frag} {mg : Str → Option Value} {x : Str} {C : Addr} (_ : ClF K mg x C) (m q : Str) (st : Stmt) (dvs : List V) (kws : List (Str × V)) {R : Prop} (d : MetD K C m q st dvs kws) (r : MetD K C m q st dvs kws → R) : R := r d
/-- keyword-only defaults, one by one -/
theorem kwd_nil {K : PySem.W.Frag} {kV : Value} : KwdV K kV [] := .inl rfl
theorem kwd_cons {K : PySem.W.Frag} {D : Addr} {x : Str} {v : V} {u : Value} {kws : List (Str × V)} (h : PySem.W.nsIn K D x = some (some u)) (r : RelV v u) (t : KwdV K (.ref D) kws) : KwdV K (.ref D) ((x, v) :: kws) := by
  refine .inr ⟨D, rfl, fun q hq => ?_⟩
  rcases List.mem_cons.mp hq with rfl | hq
  · exact ⟨u, h, r⟩
  · rcases t with rfl | ⟨D', e, t⟩
    · cases hq
    · cases e
      exact t q hq
theorem dfl_nil {K : PySem.W.Frag} : DflV K .none [] := .inl ⟨rfl, rfl⟩
theorem dfl_one {K : PySem.W.Frag} {T : Addr} {o : Obj} {v : V} {u : Value} {n : Nat} (l : K.lookup T = some o) (d : o.data = .seq #[u] n) (r : RelV v u) : DflV K (.ref T) [v] := .inr ⟨List.cons_ne_nil _ _, T, o, [u], n, rfl, l, d, .cons r .nil⟩
theorem FunD.kbindsN {K : PySem.W.Frag} {x qual : Str} {params : Arguments} {body : List Stmt} {scope : Scope} {f : Addr} {fd : FuncData} {ps : List Str} (F : FunD K x qual params body scope [] [] f fd) (n : Nat) (ks : List Str) (g : {α : Type} → List α → List α → List α)
    (hrel : ∀ {vs zs : List V} {us ws : List Value}, Vals vs us → Vals zs ws → Vals (g vs zs) (g us ws))
    (h : ∀ (kV doc pm : Value) (an : Option Addr) (cdv ct : Value) (us ws : List Value), us.length = n → ws.length = ks.length → bindArgs (PySem.W.fnOf x qual params body scope .none kV doc pm an cdv ct) ⟨us, ks.zip ws⟩ = pure (ps.zip (g us ws))) :
    KBn K fd ps n ks (fun us ws => g us ws) (fun vs zs => g vs zs) := by
  obtain ⟨oc, od, dV, kV, doc, pm, an, cdv, ct, osl, rfl, lk, hcd, hD, hK⟩ := F.ex
  rcases hD with ⟨_, rfl⟩ | ⟨e, _⟩
  · exact ⟨fun s us ws X l1 l2 => .of_eq (h kV doc pm an cdv ct us ws l1 l2), fun r1 r2 => hrel r1 r2⟩
  · exact absurd rfl e
/-! ### calls -/
structure CalN (P : Program) (w : World) (K : PySem.W.Frag) (mg : Str → Option Value) (base : Heap) (k : Nat) (x : Str) (ks : List Str) (sp : Sp) (gV : List V → List V → List V) : Prop where
  ex : ∃ (f : Addr) (fd : FuncData) (ps : List Str) (g : List Value → List Value → List Value), FnOk P w K mg base C8.CX0 k f fd ps sp ∧ mg x = some (.ref f) ∧ PySem.W.keepIn K (.ref f) = true ∧ KBn K fd ps 0 ks g gV
structure MakN (P : Program) (w : World) (K : PySem.W.Frag) (mg : Str → Option Value) (base : Heap) (k : Nat) (x : Str) (C : Addr) (ks : List Str) (sp : Sp) (gV : List V → List V → List V) : Prop where
  ex : ∃ (f : Addr) (fd : FuncData) (ps : List Str) (g : List Value → List Value → List Value), Mk K C f ∧ FnOk P w K mg base C8.CX0 k f fd ps sp ∧ mg x = some (.ref C) ∧ KBn K fd ps 1 ks g gV
structure MetN (P : Program) (w : World) (K : PySem.W.Frag) (mg : Str → Option Value) (base : Heap) (k : Nat) (C : Addr) (m : Str) (ks : List Str) (sp : Sp) (gV : List V → List V → List V) : Prop where
  ex : ∃ (f : Addr) (fd : FuncData) (ps : List Str) (g : List Value → List Value → List Value), Cls K C ∧ Meth K C m f ∧ FnOk P w K mg base C8.CX0 k f fd ps sp ∧ KBn K fd ps 1 ks g gV
def tMethN (C : Addr) (m : Str) (n : Nat) (sp : Sp) (gV : List V → List V → List V) (E : XK) (ta : TE) (tk : TA) : TE := fun σ H Q => ta σ H fun x H1 => ∃ a dx fs, x = .ref a ∧ H1 a = some (.ins C dx fs) ∧ fs.lookup m = none ∧
  tk σ H1 fun zs H2 => zs.length = n ∧ sp (gV [.ref a] zs) H2 Q E
section
variable {X : Cx} {k j : Nat} {C : Addr} {x m : Str} {sp : Sp} {dvs : List V} {p pos apos : Pos} {o : Expr} {kws : List Keyword} {ks : List Str} {ta : TE} {tk : TA} {gV : List V → List V → List V}
theorem pe_cN (c : CalN X.prog X.w X.K X.mg X.base k x ks sp gV) (hr : Room j X.A) (hk : k ≤ j) (hg : Gl X x) (hkw : PK X kws tk)
    (hall : (backToKw pos (keywordEach kws X.env)).all (·.1.isSome) = true := by rfl) (hks : (backToKw pos (keywordEach kws X.env)).filterMap (·.1) = ks := by rfl) (hdb : (x == ("__debug__" : Str)) = false := by decide)
    (hpl : ((backTo pos (starEach [] X.env)).any (·.1) || (backToKw pos (keywordEach kws X.env)).any (·.1.isNone)) = false := by rfl) :
    PE X (.Call (.Name x p) [] kws pos) (tCallN 0 ks.length sp gV C8.E0 tNil tk) := by
  obtain ⟨f, fd, ps, g, F, hm, kp, hb⟩ := c.ex
  refine ⟨fun pins s σ H Q I h => ?_⟩
  refine wpAny_Call_Name_kw (ld_glob I hg hm ?_ hdb)
  refine PySem.W.callWith_KW0 (h₀ := X.base) I.ok.mod.kin kp hall ?_ hpl
  refine thn (hkw.run pos pins s σ H _ I h) fun ws s2 ⟨zs, H2, I2, rz, l1, l2, q2⟩ => ⟨I2.kIn, ?_⟩
  rw [hks]
  exact run_fnN (us := []) (vs := []) F (hr.mono hk) hb C8.pass0 I2 .nil rz rfl l2 q2
theorem pe_mkN (c : MakN X.prog X.w X.K X.mg X.base k x C ks sp gV) (hr : Room j X.A) (hk : k + 1 ≤ j) (hg : Gl X x) (hkw : PK X kws tk)
    (hall : (backToKw pos (keywordEach kws X.env)).all (·.1.isSome) = true := by rfl) (hks : (backToKw pos (keywordEach kws X.env)).filterMap (·.1) = ks := by rfl) (hdb : (x == ("__debug__" : Str)) = false := by decide)
    (hpl : ((backTo pos (starEach [] X.env)).any (·.1) || (backToKw pos (keywordEach kws X.env)).any (·.1.isNone)) = false := by rfl) :
    PE X (.Call (.Name x p) [] kws pos) (tMakeK C 0 ks.length sp gV C8.E0 tNil tk) := by
  obtain ⟨f, fd, ps, g, M, F, hm, hb⟩ := c.ex
  exact pe_makeK0 M F (hr.mono hk) hg hm hb C8.pass0 hkw hall hks hdb hpl
theorem pe_mk0 (c : C8.Mak X.prog X.w X.K X.mg X.base k x C sp dvs) (hr : Room j X.A) (hk : k + 1 ≤ j) (hg : Gl X x)
    (hdb : (x == ("__debug__" : Str)) = false := by decide) : PE X (.Call (.Name x p) [] [] pos) (tMake C sp dvs C8.E0 tNil) := by
  obtain ⟨f, fd, ps, ds, M, F, hm, b, d⟩ := c.ex
  exact pe_make0 M F (hr.mono hk) hg hm b d C8.pass0 hdb
theorem pe_mtN {pl : Sem Bool} (c : MetN X.prog X.w X.K X.mg X.base k C m ks sp gV) (hr : Room j X.A) (hk : k ≤ j) (he : PE X o ta) (hkw : PK X kws tk)
    (hall : (backToKw pos (keywordEach kws X.env)).all (·.1.isSome) = true := by rfl) (hks : (backToKw pos (keywordEach kws X.env)).filterMap (·.1) = ks := by rfl)
    (hpl : ((backTo pos (starEach [] X.env)).any (·.1) || (backToKw pos (keywordEach kws X.env)).any (·.1.isNone)) = false := by rfl)
    (ht : eval (.Call (.Attribute o m apos) [] kws pos) X.env = (do
      let ov ← eval o X.env
      standAt apos.atName
      let (f, first) ← holding [ov] (getMethod ov m pl)
      callWith pos f first (backTo pos (starEach [] X.env)) (backToKw pos (keywordEach kws X.env))) := by rfl) :
    PE X (.Call (.Attribute o m apos) [] kws pos) (tMethN C m ks.length sp gV C8.E0 ta tk) := by
  obtain ⟨f, fd, ps, g, hc, hm, F, hb⟩ := c.ex
  refine ⟨fun pins s σ H Q I h => ?_⟩
  refine PySem.W.methodCall_KW (pl := pl) (thn (he.run pins s σ H _ I h) fun u s1 ⟨x, H1, I1, rx, a, dx, fs, ex, ea, l, q⟩ => ?_) ht
  subst ex
  obtain rfl : u = Value.ref a := rx
  refine getmeth_ok I1 ea hc hm l ?_
  refine PySem.W.callWith_KW0 (first := [.ref a]) (h₀ := X.base) I.ok.mod.kin hm.kp hall ?_ hpl
  refine thn (hkw.run pos pins s1 σ H1 _ I1 q) fun ws s2 ⟨zs, H2, I2, rz, l2, q2⟩ => ⟨I2.kIn, ?_⟩
  rw [hks]
  exact run_fnN (us := [.ref a]) (vs := [.ref a]) F (hr.mono hk) hb C8.pass0 I2 (.cons rfl .nil) rz rfl l2 q2
end
end CK

set_option Elab.async false
set_option linter.all false
set_option maxRecDepth 100000
set_option maxHeartbeats 2000000
/-! a whole number as a test (within a comprehension) -/
namespace CK
open PySem PySem.Spec PyProof.Rows L2
theorem tr_int {X : Cx} : TruR X (fun v H Q => ∃ i : Int, v = .int i ∧ Q (i != 0) H) := by
  intro pins s σ H x v Q I rx h
  obtain ⟨i, rfl, q⟩ := h
  exact tru_ok pins s σ H _ v Q I rx ⟨i != 0, rfl, q⟩
def tTruI (t : TE) : TT := fun σ H Q => t σ H fun x H' => ∃ i : Int, x = .int i ∧ Q (i != 0) H'
theorem pt_truI {X : Cx} {a : Expr} {ta : TE} (ha : PE X a ta) (he : ∀ whole, isTrue a X.env whole = (do let v ← whole; standAt a.pos; holding [v] (truthy v))) : PT X a (tTruI ta) := pt_truthR ha tr_int he
end CK

set_option Elab.async false
set_option linter.all false
set_option maxRecDepth 100000
set_option maxHeartbeats 2000000
/-! the law's end, where no repr is under way -/
namespace CK
open PySem PySem.Spec PyProof.Rows L2
theorem DefF.oneG {K : PySem.W.Frag} {mg : Str → Option Value} {x p : Str} {st : Stmt} (D : DefF K mg x st [p]) : ∃ (f : Addr) (fd : FuncData), mg x = some (.ref f) ∧ (∀ (s : Shared) (v : Value), BindsTo s fd ⟨[v], []⟩ [(p, v)]) ∧
    ∀ {P : Program} {w : World} {base : Heap} {N : List Str} {k : Nat} {sp : Sp} (S : FnScope N [p] (C8.fnScope st)) (len : ∀ vs H Q E, sp vs H Q E → vs.length = 1)
      (body : ∀ (cdv : Value) (A : Around) (outer : List Env) (z : Shared) (H : Hp) (vs : List V) (Q : VK) (E : XK), Room k (A.deeper (envOfC x (C8.fnScope st) z.heap.objs.size f cdv)) → A.guards = some [] → sp vs H Q E →
        ∃ t, PSs (cxOf C8.CX0 P w K mg base N x (C8.fnScope st) f cdv A outer z H E).nox (C8.fnBody st) t ∧ t { nx := fun _ H' => Q .non H', rt := Q } (start N vs) H), FnG P w K mg base (k + 1) f fd [p] sp := by
  obtain ⟨f, fd, F, b⟩ := D.ex
  exact ⟨f, fd, F.mgf, fun s v => .of_eq (b [v] rfl), fun S len body => fnG_of F.fn S len body⟩
section
variable {P : Program} {w : World} {K : PySem.W.Frag} {mg mb : Str → Option Value} {k : Nat} {fa a : Addr} {fd : FuncData} {x : Str} {sp : Sp} {z : Shared} {vs : List Value} {ns : List Int}
/-- from an abstract heap H that tracks the script at most -/
theorem callG_at (inK : K.In z.heap) (gl : z.heap.Ns mainGlobals mg) (bl : z.heap.Ns builtinsNs mb) (bb : ∀ x : Str, x ≠ "__name__" → mb x = bootBuiltins x) (lim : z.heap.NoLimit) (gens : z.gens = #[])
    (scr : z.heap.get? a = some { cls := .type "list", data := .seq vs.toArray }) (room : Room k callerA)
    (F : ∀ base : Heap, K.In base → base.Ns mainGlobals mg → FnG P w K mg base k fa fd [x] sp) (bind : ∀ (s : Shared) (u : Value), BindsTo s fd ⟨[u], []⟩ [(x, u)])
    (H : Hp) (only : Only H) (want : sp [.ref a] H (fun v _ => v = .bl true) fun _ _ _ => False) (hok : HOk P w H z.heap) (alone : ∀ b, H b ≠ none → b = a) (apart : H a ≠ none → K.lookup a = none) :
    codeAny (model P w) callerA (.call (.ref fa) ⟨[.ref a], []⟩) (fun r s' => r = .ok (.ret (.bool true)) ∧ OldK z.heap s'.heap ∧ s'.os = z.os ∧ AllBare s'.gens) z := by
  have isA : ∀ {b : Addr} {u : HO}, H b = some u → b = a := fun {b u} e => alone b fun n => by rw [n] at e; cases e
  have hid : ∀ {b : Addr} {m : Str → Option Value}, z.heap.Ns b m → (hidT z.heap H).Ns b m := by
    intro b m h
    obtain ⟨o, es, ep, e, dt, rest⟩ := h
    refine ⟨o, es, ep, hidT_get e ?_, dt, rest⟩
    match q : H b with
    | none => rfl
    | some u =>
      rw [isA q, scr] at e
      cases e
      exact absurd dt (fun y => by cases y)
  have inB : K.In (hidT z.heap H) := by
    intro b o e
    refine hidT_get (inK b o e) ?_
    match q : H b with
    | none => rfl
    | some u =>
      have ba := isA q
      subst ba
      rw [apart (by rw [q]; exact fun y => by cases y)] at e
      exact absurd e (fun y => by cases y)
  obtain ⟨mc, l1, l2⟩ := lim
  have md : Mod K mg (hidT z.heap H) := ⟨inB, hid gl, ⟨mb, hid bl, bb⟩, ⟨mc, hid l1, l2⟩⟩
  have en : Env0 P w K mg (hidT z.heap H) callerA [] z H :=
    { frames := rfl, mod := md, bs := fun b o e => of_hidT e, bsz := Nat.le_of_eq (hidT_size _ _), funs := trivial, frf := fun b hb => absurd (show b ∈ ([] : List Addr) from hb) List.not_mem_nil, hok := hok, bare := .of_eq gens }
  refine codeAny_mono ((F _ inB (hid gl)).go callerA [] z H ⟨[.ref a], []⟩ [.ref a] [.ref a] _ _ room rfl en (bind z (.ref a)) (.cons rfl .nil) want) fun r s' got => ?_
  match r, got with
  | .ok (.ret u), got =>
    obtain ⟨v, H', os, bare, un, hok', rv, q⟩ := got
    have q : v = .bl true := q
    subst q
    have eu : u = Value.bool true := rv
    subst eu
    refine ⟨rfl, OldK.of_keep fun b o e => ?_, os, bare⟩
    match q : H b with
    | none => exact un.keep b o e q (fun y => absurd (show b ∈ ([] : List Addr) from y) List.not_mem_nil) List.not_mem_nil
    | some u =>
      obtain y | ⟨ob, xs, y⟩ := only b
      · exact absurd (q.symm.trans y) (fun y => by cases y)
      · have o1 := (hok b _ y).1
        have o2 := (hok' b _ (un.frzs b ob _ y)).1
        rw [e] at o1
        rw [Option.some.inj o1]
        exact o2
  | .error e, got => exact absurd got (fun y => nomatch y)
theorem callG (inK : K.In z.heap) (gl : z.heap.Ns mainGlobals mg) (bl : z.heap.Ns builtinsNs mb) (bb : ∀ x : Str, x ≠ "__name__" → mb x = bootBuiltins x) (lim : z.heap.NoLimit) (gens : z.gens = #[])
    (scr : z.heap.get? a = some { cls := .type "list", data := .seq vs.toArray }) (nums : IntsAre vs ns) (len : ns.length ≤ sizeLine) (room : Room k callerA)
    (F : ∀ base : Heap, K.In base → base.Ns mainGlobals mg → FnG P w K mg base k fa fd [x] sp) (bind : ∀ (s : Shared) (u : Value), BindsTo s fd ⟨[u], []⟩ [(x, u)])
    (want : ∀ H : Hp, Only H → SqL K H a (ns.map V.int) → sp [.ref a] H (fun v _ => v = .bl true) fun _ _ _ => False) :
    codeAny (model P w) callerA (.call (.ref fa) ⟨[.ref a], []⟩) (fun r s' => r = .ok (.ret (.bool true)) ∧ OldK z.heap s'.heap ∧ s'.os = z.os ∧ AllBare s'.gens) z := by
  have vals := vals_ints nums
  match look : K.lookup a with
  | some o =>
    have e := inK a o look
    rw [scr] at e
    obtain rfl := Option.some.inj e
    refine callG_at inK gl bl bb lim gens scr room F bind (fun _ => none) (fun _ => .inl rfl) (want _ (fun _ => .inl rfl) (.inr ?_)) (fun b u y => absurd y (fun q => by cases q)) (fun b y => absurd rfl y) (fun y => absurd rfl y)
    exact ⟨_, vs.toArray, _, look, rfl, rfl, rfl, by rw [List.size_toArray, nums.length]; exact len, by simpa using vals⟩
  | none =>
    have at_ : ∀ b, (if b = a then some (HO.frz { cls := .type "list", data := .seq vs.toArray } (.lst (ns.map V.int))) else none) ≠ none → b = a := fun b y => by
      by_cases e : b = a
      · exact e
      · rw [if_neg e] at y
        exact absurd rfl y
    have only : Only fun b => if b = a then some (HO.frz { cls := .type "list", data := .seq vs.toArray } (.lst (ns.map V.int))) else none := fun b => by
      by_cases e : b = a
      · exact .inr ⟨_, _, if_pos e⟩
      · exact .inl (if_neg e)
    refine callG_at inK gl bl bb lim gens scr room F bind _ only (want _ only (.inl (.inr ⟨_, if_pos rfl⟩))) (fun b u y => ?_) at_ fun _ => look
    have e := at_ b (fun q => by have := q.symm.trans y; cases this)
    subst e
    have y' := (if_pos rfl).symm.trans y
    obtain rfl := Option.some.inj y'
    exact ⟨scr, by rw [List.length_map]; exact len, vs, _, vals, scr⟩
end
/-- what k_head leaves, from the law's promise -/
theorem walkG {l : PySem.W.OpenLaw} {n k : Nat} {q : Program} {loose : List Str} {XP : (Str → Option Value) → Heap → Prop} {YP : World → Heap → Prop} {d : DefRec} {K : Params → PySem.W.Frag} {sp : World → Sp} {x : Str}
    (most : l.most = some n) (small : n ≤ sizeLine) (plain : d.params.defaults = []) (room : Room k callerA) (inK : ∀ (w : World) (h : Heap), YP w h → (K w.params).In h)
    (F : ∀ (w : World) (mg : Str → Option Value) (fa : Addr) (h : Heap), (K w.params).In h → h.Ns mainGlobals mg → mg d.name = some (.ref fa) → ∃ fd : FuncData,
      (∀ (s : Shared) (u : Value), BindsTo s fd ⟨[u], []⟩ [(x, u)]) ∧ ∀ base : Heap, (K w.params).In base → base.Ns mainGlobals mg → FnG l.prog w (K w.params) mg base k fa fd [x] (sp w))
    (want : ∀ (w : World) (H : Hp) (a : Addr) (ns : List Int), ns.length ≤ n → Only H → SqL (K w.params) H a (ns.map V.int) → sp w [.ref a] H (fun v _ => v = .bl true) fun _ _ _ => False) :
    PySem.W.WalkO q loose XP YP l.row.toRowW d [] (fun f vs => PySem.call f vs) := by
  refine Att.attach_call most plain fun w _ z mg mb fa _ _ _ _ a vs ns G Y _ _ _ hmg scr nums hl gens => ?_
  have h1 := inK w _ Y
  obtain ⟨fd, bind, hF⟩ := F w mg fa _ h1 G.T.g hmg
  exact callG h1 G.T.g G.T.b G.T.builtins G.T.nolimit gens scr nums (Nat.le_trans hl small) room hF bind fun H hO hS => want w H a ns hl hO hS
end CK

set_option Elab.async false
set_option linter.all false
set_option maxRecDepth 100000
set_option maxHeartbeats 2000000
/-! a tuple of one item, k times, k of at least -1 -/
namespace CK
open PySem PySem.Spec PyProof.Rows L2 SX
theorem mulM1 (l : Addr) (v : Value) (n : Nat) (dd : Option Addr) (sl : Array (Option Value)) (u : Tok) :
    Meets (Builtin.«tuple.__mul__» ⟨[.ref l, .int (-1) u], []⟩) (fun _ R s =>
      s.heap.get? l = some { cls := .type "tuple", dict := dd, data := .seq #[v] n, slots := sl } ∧
      R (.ok (.ret (Value.ref s.heap.objs.size))) { s with heap := s.heap.push { cls := Value.type "tuple", data := Data.seq #[] } }) := by
  refine Meets.of_wp fun prog w A R s h => ?_
  obtain ⟨hq, g, d, tk, o2⟩ := s
  obtain ⟨hl, h⟩ := h
  have f1 := AutoSeq1.idx_int
  wp_walk using wpAny_loadPart' hl
  exact ⟨_, rfl, h⟩
section
variable {X : Cx}
theorem op_repOneZ : OpR X (binaryOp .Mult) (fun x y H Q => ∃ (l : Addr) (k : Int) (v : V), x = .ref l ∧ y = .int k ∧ H l = some (.tup [v]) ∧ -1 ≤ k ∧ k ≤ 1000 ∧
    ∀ p H', Same H H' → H' p = some (.tup (List.replicate k.toNat v)) → Q (.ref p) H') := by
  intro pins s σ H x y xv yv Q I rx ry h
  obtain ⟨l, k, v, rfl, rfl, hl, h0, h1, q⟩ := h
  by_cases hk : k = -1
  · subst hk
    cases rx
    obtain ⟨t, rfl⟩ := ry
    obtain ⟨zs, r, ⟨⟨cl, dd, da, sl⟩, ho, hc, n, hd⟩, hs⟩ := I.tuple (.inl (.inl hl) : SqT X.K H l [v])
    simp only at hc hd
    subst hc hd
    cases r with
    | cons r1 r2 =>
    cases r2
    rename_i u
    refine wpAny_binaryOp_repeat_ref (T := "tuple") (U := "int") (by decide) ⟨_, ho, rfl⟩ (fun s' => typeIs_int s' (-1) t) mulFill F.fills_int_mul F.slot_int_rmul mulSeq F.slot_int_index.lookup
      (call_meets F.slot_int_rmul (typeIs_int s (-1) t) F.entry_int_rmul (F.args_int_rmul_2 _ _) (rmulNo (-1) t l _ n dd sl)
        ⟨ho, rfl, ⟨_, ho, rfl⟩, call_meets F.slot_tuple_mul ⟨_, ho, rfl⟩ F.entry_tuple_mul (F.args_tuple_mul_2 _ _) (mulM1 l _ n dd sl t) ⟨ho, ?_⟩⟩)
    have hn : H s.heap.objs.size = none := I.hok.fresh (Nat.le_refl _)
    refine ⟨.ref s.heap.objs.size, _, I.laid (t' := s.toks) (o := .tup []) (fun b ob q => Heap.get?_push_of_some _ q) (Nat.le_refl _) ?_, rfl, q _ _ (sameNew hn) upd_same⟩
    exact ⟨Nat.zero_le _, [], .nil, IsTup.new _ _⟩
  · exact op_repOne pins s σ H _ _ xv yv Q I rx ry ⟨l, k, v, rfl, rfl, hl, by omega, h1, q⟩
end
end CK

set_option Elab.async false
set_option linter.all false
set_option maxRecDepth 100000
set_option maxHeartbeats 4000000
/-! sorted of any data; sorted(.., key=len) of texts -/
namespace CK
open PySem PySem.Spec PyProof.Rows L2 PySem.W
theorem vals_each : ∀ {xs : List V} {us : List Value}, Vals xs us → EachIs (fun u x => RelV x u) us xs
  | _, _, .nil => .nil
  | _, _, .cons r t => .cons r (vals_each t)
theorem each_vals : ∀ {us : List Value} {xs : List V}, EachIs (fun u x => RelV x u) us xs → Vals xs us
  | _, _, .nil => .nil
  | _, _, .cons r t => .cons r (each_vals t)
section
variable {X : Cx}
/-- sorted(xs), a list of data -/
theorem cr_sortedA (hu : X.A.units + 64 < cLine) : CallR X (.builtin "sorted") (fun vs H Q => ∃ (a : Addr) (xs : List V) (d : V → PyData), vs = [V.ref a] ∧ SqL X.K H a xs ∧ (∀ v ∈ xs, Dp X.K H v (d v)) ∧ AllAlike (xs.map d) ∧ Sortable (xs.map d) ∧ (∀ v ∈ xs, (d v).depth ≤ 60) ∧
    ∀ p, H p = none → Q (.ref p) (upd H p (.lst (xs.mergeSort (dataLe false d))))) := by
  intro pins s σ H vs us Q I r h
  obtain ⟨a, xs, d, rfl, hs, hd, hal, hk, hb, q⟩ := h
  obtain ⟨its, rv, hl, hz⟩ := I.list hs
  rw [Vals.ref1 r]
  have e := vals_each rv
  have er : EachIs (fun v b => ∃ as, Reads s.heap v (d b) as) its xs := by
    have key : ∀ {us : List Value} {ys : List V}, EachIs (fun u x => RelV x u) us ys → (∀ v ∈ ys, v ∈ xs) → EachIs (fun v b => ∃ as, Reads s.heap v (d b) as) us ys := fun h => by
      induction h with
      | nil => intro _; exact .nil
      | cons hr _ ih => intro hm; exact .cons (Dp.reads I _ _ _ (hd _ (hm _ List.mem_cons_self)) hr) (ih fun v hv => hm v (List.mem_cons_of_mem _ hv))
    exact key e fun _ h => h
  refine sorted_data (l := a) (vs := its) (bs := xs) (enc := d) hl.isList e er hal hk hz (fun b hb' => by have := hb b hb'; omega) fun out ho eo => ?_
  obtain ⟨ep, he'⟩ := PyProof.Rows.sortedAll_at s.heap its out.toArray
  have hlen : (xs.mergeSort (dataLe false d)).length ≤ sizeLine := by
    rw [List.length_mergeSort]
    exact hz
  exact ⟨.ref _, upd H (s.heap.objs.size + 1) (.lst (xs.mergeSort (dataLe false d))), I.laid (t' := s.toks) (fun _ _ => PyProof.Rows.sortedAll_old) (Nat.le_succ _) ⟨hlen, out, ep, each_vals eo, he'⟩, rfl, q _ (I.hok.fresh (Nat.le_succ _))⟩
/-- a text's data -/
def dV : V → PyData
  | .str x => .str x
  | _ => .none
theorem alike_strs (zs : List Str) : AllAlike ((zs.map V.str).map dV) := fun d hd d' hd' => by
  rw [List.map_map] at hd hd'
  obtain ⟨x, _, rfl⟩ := List.mem_map.mp hd
  obtain ⟨y, _, rfl⟩ := List.mem_map.mp hd'
  rfl
theorem sortable_strs (zs : List Str) : Sortable ((zs.map V.str).map dV) := .inr fun d hd => by
  rw [List.map_map] at hd
  obtain ⟨x, _, rfl⟩ := List.mem_map.mp hd
  exact ⟨fun h => (nomatch h), fun _ h => (nomatch h)⟩
/-- the order of texts -/
def leS (x y : Str) : Bool := decide (x.cps.toList ≤ y.cps.toList)
theorem sort_strs (zs : List Str) : (zs.map V.str).mergeSort (dataLe false dV) = (zs.mergeSort leS).map V.str := by
  refine (sort_maps V.str fun a _ b _ => ?_).symm
  have := congrFun (congrFun (dataLe_str (β := Str) fun x => x) a) b
  show _ = dataLe false dV (V.str a) (V.str b)
  exact this.symm
/-- sorted(d), a dict whose keys are texts -/
theorem call_sortedDA (hcalm : X.calm = true) (hu : X.A.units + 64 < cLine) : CallR X (.builtin "sorted") (fun xs H Q => ∃ (a : Addr) (kvs : List (Key × V)) (ks : List Str), xs = [.ref a] ∧ Rd H a (.dK kvs) ∧ kvs.map (·.1) = ks.map Sum.inr ∧ ks.length ≤ sizeLine ∧
    ∀ p, H p = none → Q (.ref p) (upd H p (.lst ((ks.mergeSort leS).map V.str)))) := by
  intro pins s σ H xs us Q I r q
  obtain ⟨a, kvs, ks, ex, hd, hks, h64, q⟩ := q
  subst ex
  obtain ⟨u, eu, rx⟩ := vals1 r
  subst eu
  cases rx
  obtain ⟨z, lo, vs, rel, dd⟩ := dk_rd I.hok hd
  obtain ⟨ep, hat⟩ := dd.dictAt
  have hkeys : vs.map (·.1) = ks.map Sum.inr := rel.keys.symm.trans hks
  have hl : vs.length = ks.length := by
    have e := congrArg List.length hkeys
    rw [List.length_map, List.length_map] at e
    exact e
  have h16 : vs.length ≤ sizeLine := by rw [hl]; exact h64
  refine Calls.call_function_entry PyProof.Rows.kind_sorted PyProof.Rows.plain_sorted PyProof.Rows.entry_sorted (PyProof.Rows.args_sorted1 _) ?_
  unfold Builtin.«sorted»
  refine wpAny_bind (m := checkCount "sorted" 1 1 _) (wpAny_pure ?_)
  refine wpAny_bind (PySem.W.kdu_collect (A := X.A.in1) (PySem.W.kdl_dict (knd := mixKind X.prog X.w) (kvs := vs) (ep := ep) lo) (I.ok.hd hcalm) hat h16 fun h' tk acc hk hacc => ?_)
  have hal : acc.toList.length = ks.length := by rw [Array.length_toList, hacc.1, hl]
  have hS : StrsAre acc.toList ks := strs_at hal fun j v e => by
    obtain ⟨k, x, e1, e2⟩ := hacc.2 j v (by rw [← Array.getElem?_toList]; exact e)
    have e3 : (vs.map (·.1))[j]? = some k := by rw [List.getElem?_map, e1]; all_goals rfl
    rw [hkeys, List.getElem?_map] at e3
    cases e4 : ks[j]? with
    | none => rw [e4] at e3; cases e3
    | some y =>
      rw [e4] at e3
      have e5 : Sum.inr y = k := Option.some.inj e3
      subst e5
      obtain ⟨t, ev⟩ := Value.isStrOf_shape (x := y) (v := v) e2
      exact ⟨y, t, rfl, ev⟩
  have I1 : Inv X pins σ H { s with heap := h', toks := tk } := I.kept hk
  refine wpAny_bind (wpAny_newList ?_ (by rw [hal]; exact h64))
  have hoL : (h'.push (seqObj "list" acc.toList.toArray 0)).get? h'.objs.size = some (seqObj "list" acc.toList.toArray 0) := Heap.get?_push_size _ rfl
  show wpAny _ _ _ _ _ { s with heap := h'.push (seqObj "list" acc.toList.toArray 0), toks := tk }
  have ev : EachIs (fun u x => RelV x u) acc.toList (ks.map V.str) := vals_each (vals_of_strs hS)
  have er : ∀ (g : Heap), EachIs (fun v b => ∃ as, Reads g v (dV b) as ∧ h'.objs.size ∉ as) acc.toList (ks.map V.str) := fun g => by
    have key : ∀ {us : List Value} {ys : List Str}, StrsAre us ys → EachIs (fun v b => ∃ as, Reads g v (dV b) as ∧ h'.objs.size ∉ as) us (ys.map V.str) := fun h => by
      induction h with
      | nil => exact .nil
      | cons x t _ ih => exact .cons ⟨[], .str _ _, List.not_mem_nil⟩ ih
    exact key hS
  refine wpAny_bind (wpAny_holding (list_sort_data (s := { s with heap := h'.push (seqObj "list" acc.toList.toArray 0), toks := tk }) (enc := dV) hoL ev (er _) (alike_strs ks) (sortable_strs ks) (by rw [List.length_map]; exact h64) (fun b hb => ?_) fun out ho eo => ?_))
  · obtain ⟨x, _, rfl⟩ := List.mem_map.mp hb
    have e1 : (dV (V.str x)).depth = 0 := rfl
    have e2 : X.A.in1.units = X.A.units + 1 := rfl
    omega
  rw [sort_strs] at eo
  obtain ⟨e', he'⟩ := PyProof.Rows.sortedHeap_at (vs := acc.toList) (out := out.toArray) hoL
  have hlen : ((ks.mergeSort leS).map V.str).length ≤ sizeLine := by
    rw [List.length_map, List.length_mergeSort]
    exact h64
  refine wpAny_pure ⟨_, rfl, .ref h'.objs.size, upd H h'.objs.size (.lst ((ks.mergeSort leS).map V.str)), I1.laid (t' := tk) (fun b u e => ?_) (Nat.le_refl _)
    (show ObjOk X.prog X.w _ _ _ (.lst ((ks.mergeSort leS).map V.str)) from ⟨hlen, out, e', each_vals eo, he'⟩), rfl, q _ (I1.hok.fresh (Nat.le_refl _))⟩
  have hb : b < h'.objs.size := Heap.lt_size e
  rw [PyProof.Rows.sortedHeap_old (Nat.ne_of_lt hb) (by rw [size_push']; exact Nat.lt_succ_of_lt hb)]
  exact Heap.get?_push_of_some _ e
/-- the order by length -/
def leN (x y : Str) : Bool := decide (x.length ≤ y.length)
def lV : V → PyData
  | .str x => .int (x.length : Nat)
  | _ => .none
theorem sort_lens (zs : List Str) : (zs.map V.str).mergeSort (dataLe false lV) = (zs.mergeSort leN).map V.str := by
  refine (sort_maps V.str fun a _ b _ => ?_).symm
  have := congrFun (congrFun (dataLe_int (β := Str) fun x => (x.length : Nat)) a) b
  show _ = dataLe false lV (V.str a) (V.str b)
  refine Eq.trans ?_ this.symm
  exact decide_eq_decide.mpr ⟨fun h => by omega, fun h => by omega⟩
def rSortedLen (K : PySem.W.Frag) : List V → Hp → VK → Prop := fun vs H Q => ∃ (a : Addr) (zs : List Str), vs = [V.ref a] ∧ SqL K H a (zs.map V.str) ∧ (∀ z ∈ zs, z.length ≤ sizeLine) ∧ ∀ p, H p = none → Q (.ref p) (upd H p (.lst ((zs.mergeSort leN).map V.str)))
theorem pe_sortedLen {x y : Str} {p lp kp pos : Pos} {e : Expr} {t : TA} (hu : X.A.units + 64 < cLine) (hg : Gl X x) (hm : X.mg x = none) (hv : bootBuiltins x = some (.builtin "sorted")) (hg' : Gl X y) (hm' : X.mg y = none) (hv' : bootBuiltins y = some (.builtin "len")) (ha : PA X [e] t)
    (hn : x ≠ "__name__" := by decide) (hdb : (x == ("__debug__" : Str)) = false := by decide) (hn' : y ≠ "__name__" := by decide) (hdb' : (y == ("__debug__" : Str)) = false := by decide)
    (he : backTo pos (starEach [e] X.env) = (false, eval e X.env) :: backTo pos (starEach [] X.env) := by rfl) (hpl : (backTo pos (starEach [e] X.env)).any (·.1) = false := by rfl) :
    PE X (.Call (.Name x p) [e] [⟨some "key", .Name y lp, kp⟩] pos) (fun σ H Q => t σ H fun vs H1 => rSortedLen X.K vs H1 Q) := by
  refine ⟨fun pins s σ H Q I h => ?_⟩
  refine wpAny_Call_Name_kw (ld_blt I hg hm hv ?_ hn hdb)
  refine PyProof.Rows.callWith_kw (thn (ha.run pos pins s σ H _ I h) fun us s1 ⟨vs, H1, I1, r1, q1⟩ => ?_) he hpl rfl rfl
  show wpAny _ _ (evalAll ((do let v ← eval (.Name y lp) X.env; standAt pos; pure v) :: [])) _ _ s1
  refine wpAny_evalAll_cons (wpAny_bind (ld_blt I1 hg' hm' hv' (wpAny_bind (wpAny_standAt (wpAny_pure ?_))) hn' hdb'))
  refine wpAny_evalAll_nil ?_
  obtain ⟨a, zs, rfl, hs, hz, q⟩ := q1
  obtain ⟨its, rv, hl, hsz⟩ := I1.list hs
  rw [Vals.ref1 r1]
  show wpAny _ _ (call (.builtin "sorted") [.ref a] [(Str.ofString "key", .builtin "len")]) _ _ s1
  have e := vals_each rv
  refine sorted_key_data (l := a) (vs := its) (bs := zs.map V.str) lV hl.isList e (fun d hd d' hd' => ?_) (.inr fun d hd => ?_) hsz (fun b hb => ?_) (PyProof.Rows.ksk_s1 _ _) (fun _ => PyProof.Rows.ksk_l1 _ _) (fun x => PyProof.Rows.ksk_t4 _ _) (fun v x hr hx h' tk _ => ?_) fun out c h' tk k1 k2 k3 ho eo => ?_
  · rw [List.map_map] at hd hd'
    obtain ⟨x, _, rfl⟩ := List.mem_map.mp hd
    obtain ⟨y, _, rfl⟩ := List.mem_map.mp hd'
    rfl
  · rw [List.map_map] at hd
    obtain ⟨x, _, rfl⟩ := List.mem_map.mp hd
    exact ⟨fun h => (nomatch h), fun _ h => (nomatch h)⟩
  · obtain ⟨z, _, rfl⟩ := List.mem_map.mp hb
    have e1 : (lV (V.str z)).depth = 0 := rfl
    omega
  · obtain ⟨z, hz', rfl⟩ := List.mem_map.mp hx
    obtain ⟨t', rfl⟩ := hr
    have hn := line63
    have := hz z hz'
    exact len_str (by omega) ⟨_, _, rfl, fun _ _ e => e, .int _ _⟩
  · rw [sort_lens] at eo
    have hlen : ((zs.mergeSort leN).map V.str).length ≤ sizeLine := by
      rw [List.length_map, List.length_mergeSort]
      rw [List.length_map] at hsz
      exact hsz
    exact ⟨.ref _, upd H1 (s1.heap.objs.size + 1) (.lst ((zs.mergeSort leN).map V.str)), I1.laid (t' := tk) k1 (Nat.le_succ _) ⟨hlen, out, c, each_vals eo, k3⟩, rfl, q _ (I1.hok.fresh (Nat.le_succ _))⟩
end
end CK

set_option Elab.async false
set_option linter.all false
set_option maxRecDepth 100000
set_option maxHeartbeats 4000000
/-! max of a tuple of numbers; max(list, default=number) -/
namespace CK
open PySem PySem.Spec PyProof.Rows L2 PySem.W
theorem args_max_default (a d : Value) : argsOk "max" ⟨[a], [(Str.ofString "default", d)]⟩ := by unfold argsOk; kernel_rfl
section
variable {prog : Program} {w : World} {A : Around} {R : Result → Shared → Prop} {I : Addr} {fp wr : List Addr} {n : Nat} {P : Nat → Value → Prop} {St : Nat → Heap → Prop} {d : Value}
theorem max_loopD (W : Walks prog w A.in1 I fp wr n P St) (bt : Nat → Nat → Bool) (hcmp : CmpOf prog w A.in1 .Gt P bt) (S : Addr) (hSf : S ∉ fp) :
    ∀ (k j : Nat) (s : Shared) (vb : Value) (c : Nat), n - (j + 1) = k → j + 1 ≤ n → St (j + 1) s.heap → P (argBest bt j) vb →
    s.heap.get? S = some { cls := .type "list", dict := none, data := .seq #[vb, vb] c, slots := #[] } →
    (∀ v h' tk, P (argBest bt (n - 1)) v → (∀ b o, b ∉ wr → b ≠ S → s.heap.get? b = some o → h'.get? b = some o) → R (.ok (.ret v)) { s with heap := h', toks := tk }) →
    codeAny (model prog w) A (.builtin "max.loop" ⟨[.ref I, .none, .ref S], [(Str.ofString "default", d)]⟩) R s := by
  have hSw : S ∉ wr := fun h => hSf (W.sub _ h)
  have hname : (toString "max" ++ toString ".loop" : String) = "max.loop" := by decide
  intro k
  induction k with
  | zero =>
    intro j s vb c hk hj hst hPb hS hR
    have hin : j + 1 = n := by omega
    refine codeAny_builtin PySem.F.entry_max_loop ?_
    rw [Around.under_plainId PySem.F.plain_max_loop _]
    show wpAny _ A.in1 (seqItems? (.ref S) >>= _) _ _ s
    refine wpAny_bind (wpAny_seqItems hS rfl ?_)
    show wpAny _ A.in1 (tryCatch (pyNext (.ref I)) _ >>= _) _ _ s
    refine wpAny_bind (wpAny_tryCatch (W.done s _ _ (hin ▸ hst) fun h' tk hk' => ?_))
    have hS' := hk' S _ hSw hS
    show wpAny _ A.in1 (updateSeq S (fun _ => #[]) >>= _) _ _ _
    refine wpAny_bind ?_
    refine wpAny_updateSeq hS' rfl (wpAny_bind (wpAny_letGo (wpAny_pure ?_)))
    refine hR vb _ tk (by rw [← hin]; exact hPb) fun b o hbw hbS e => (Heap.get?_update_other _ _ (Ne.symm hbS)).trans (hk' b o hbw e)
  | succ k ih =>
    intro j s vb c hk hj hst hPb hS hR
    have hlt : j + 1 < n := by omega
    refine codeAny_builtin PySem.F.entry_max_loop ?_
    rw [Around.under_plainId PySem.F.plain_max_loop _]
    show wpAny _ A.in1 (seqItems? (.ref S) >>= _) _ _ s
    refine wpAny_bind (wpAny_seqItems hS rfl ?_)
    show wpAny _ A.in1 (tryCatch (pyNext (.ref I)) _ >>= _) _ _ s
    refine wpAny_bind (wpAny_tryCatch (W.item (j + 1) s _ _ hlt hst fun v h' tk hP hst' hk' => ?_))
    have hS' := hk' S _ hSw hS
    show wpAny _ A.in1 (tryCatch (holding [v, v] (richCompare .Gt v vb >>= _)) _ >>= _) _ _ _
    refine wpAny_bind (wpAny_tryCatch (wpAny_holding (wpAny_bind (hcmp (j + 1) (argBest bt j) v vb _ _ _ hP hPb ?_))))
    refine wpAny_bind (wpAny_holding (wpAny_truthy_bool ?_))
    refine wpAny_bind (wpAny_letGo (wpAny_pure ?_))
    cases hb : bt (j + 1) (argBest bt j) with
    | true =>
      simp only [if_true]
      refine wpAny_bind ?_
      refine wpAny_updateSeq hS' rfl (wpAny_bind (wpAny_letGo ?_))
      rw [hname]
      refine wpAny_pure ⟨plainId_quiet PySem.F.plain_max_loop _, ih (j + 1) _ v _ (by omega) hlt (W.frame _ _ _ hst' fun b hbf o e => ?_) (by simp only [argBest, hb, if_true]; exact hP) (Heap.get?_update_self _ hS' rfl)
        fun v' h'' tk'' hP' hk'' => ?_⟩
      · exact (Heap.get?_update_other _ _ (fun h : S = b => hSf (by rw [h]; exact hbf))).trans e
      · exact hR v' h'' tk'' hP' fun b o hbw hbS e => hk'' b o hbw hbS ((Heap.get?_update_other _ _ (Ne.symm hbS)).trans (hk' b o hbw e))
    | false =>
      simp only [Bool.false_eq_true, if_false]
      refine wpAny_bind (wpAny_letGo ?_)
      rw [hname]
      refine wpAny_pure ⟨plainId_quiet PySem.F.plain_max_loop _, ih (j + 1) _ vb c (by omega) hlt hst' (by simp only [argBest, hb, Bool.false_eq_true, if_false]; exact hPb) hS' fun v' h'' tk'' hP' hk'' => ?_⟩
      exact hR v' h'' tk'' hP' fun b o hbw hbS e => hk'' b o hbw hbS (hk' b o hbw e)
theorem max_firstD (W : Walks prog w A.in1 I fp wr n P St) (bt : Nat → Nat → Bool) (hcmp : CmpOf prog w A.in1 .Gt P bt) (S : Addr) (hSf : S ∉ fp) {s : Shared} {c : Nat} (hst : St 0 s.heap)
    (hS : s.heap.get? S = some { cls := .type "list", dict := none, data := .seq #[] c, slots := #[] })
    (h0 : n = 0 → ∀ h' tk, (∀ b o, b ∉ wr → b ≠ S → s.heap.get? b = some o → h'.get? b = some o) → R (.ok (.ret d)) { s with heap := h', toks := tk })
    (hR : 0 < n → ∀ v h' tk, P (argBest bt (n - 1)) v → (∀ b o, b ∉ wr → b ≠ S → s.heap.get? b = some o → h'.get? b = some o) → R (.ok (.ret v)) { s with heap := h', toks := tk }) :
    codeAny (model prog w) A (.builtin "max.loop" ⟨[.ref I, .none, .ref S], [(Str.ofString "default", d)]⟩) R s := by
  have hSw : S ∉ wr := fun h => hSf (W.sub _ h)
  have hname : (toString "max" ++ toString ".loop" : String) = "max.loop" := by decide
  refine codeAny_builtin PySem.F.entry_max_loop ?_
  rw [Around.under_plainId PySem.F.plain_max_loop _]
  show wpAny _ A.in1 (seqItems? (.ref S) >>= _) _ _ s
  refine wpAny_bind (wpAny_seqItems hS rfl ?_)
  show wpAny _ A.in1 (tryCatch (pyNext (.ref I)) _ >>= _) _ _ s
  rcases Nat.eq_zero_or_pos n with hn | hn
  · refine wpAny_bind (wpAny_tryCatch (W.done s _ _ (hn ▸ hst) fun h' tk hk' => ?_))
    show wpAny _ A.in1 (rule _ >>= _) _ _ _
    refine wpAny_bind (wpAny_rule ?_)
    exact wpAny_pure (h0 hn h' tk fun b o hbw _ e => hk' b o hbw e)
  · refine wpAny_bind (wpAny_tryCatch (W.item 0 s _ _ hn hst fun v h' tk hP hst' hk' => ?_))
    have hS' := hk' S _ hSw hS
    show wpAny _ A.in1 (updateSeq S (fun _ => #[v, v]) >>= _) _ _ _
    refine wpAny_bind ?_
    refine wpAny_updateSeq hS' rfl ?_
    rw [hname]
    refine wpAny_pure ⟨plainId_quiet PySem.F.plain_max_loop _, max_loopD W bt hcmp S hSf _ 0 _ v _ rfl hn (W.frame _ _ _ hst' fun b hbf o e => ?_) hP (Heap.get?_update_self _ hS' rfl) fun v' h'' tk'' hP' hk'' => ?_⟩
    · exact (Heap.get?_update_other _ _ (fun h : S = b => hSf (by rw [h]; exact hbf))).trans e
    · exact hR hn v' h'' tk'' hP' fun b o hbw hbS e => hk'' b o hbw hbS ((Heap.get?_update_other _ _ (Ne.symm hbS)).trans (hk' b o hbw e))
end
section
variable {prog : Program} {w : World} {A : Around} {E : Value → Shared → Prop} {s : Shared}
theorem call_max_walkD {x d : Value} {Q : Value → Shared → Prop}
    (h : wpAny (model prog w) A.in1 (pyIter x) (fun it s₂ => ∃ I fp wr n P St bt, it = .ref I ∧ Walks prog w A.in1 I fp wr n P St ∧ St 0 s₂.heap ∧ (∀ b ∈ fp, b < s₂.heap.objs.size) ∧ CmpOf prog w A.in1 .Gt P bt ∧
      (n = 0 → ∀ h' tk, (∀ b o, b ∉ wr → s₂.heap.get? b = some o → h'.get? b = some o) → Q d { s₂ with heap := h', toks := tk }) ∧
      (0 < n → ∀ v h' tk, P (argBest bt (n - 1)) v → (∀ b o, b ∉ wr → s₂.heap.get? b = some o → h'.get? b = some o) → Q v { s₂ with heap := h', toks := tk })) E s) :
    wpAny (model prog w) A (call (.builtin "max") [x] [(Str.ofString "default", d)]) Q E s := by
  have hname : (toString "max" ++ toString ".loop" : String) = "max.loop" := by decide
  refine PyProof.Rows.kmk_tree PySem.F.kind_max PySem.F.plain_max PySem.F.entry_max (args_max_default _ _) ?_
  show wpAny _ A.in1 (Builtin.Builtins.bindParams "max" ["key", "default"] 0 ⟨[], [(Str.ofString "default", d)]⟩ >>= _) _ _ s
  refine wpAny_bind (wpAny_of_eq (show Builtin.Builtins.bindParams "max" ["key", "default"] 0 ⟨[], [(Str.ofString "default", d)]⟩ = pure [none, some d] from rfl) ?_)
  refine wpAny_bind (wpAny_pure ?_)
  refine wpAny_bind (wpAny_mono h (fun it s₂ h₂ => ?_) fun _ _ e => e)
  obtain ⟨I, fp, wr, n, P, St, bt, rfl, W, hst, hfp, hcmp, h0, hQ⟩ := h₂
  refine wpAny_bind (wpAny_newObj_type ?_)
  have hSf : s₂.heap.objs.size ∉ fp := fun hm => Nat.lt_irrefl _ (hfp _ hm)
  rw [hname]
  refine wpAny_pure ⟨plainId_quiet PySem.F.plain_max_loop _, max_firstD W bt hcmp s₂.heap.objs.size hSf (W.frame _ _ _ hst fun b _ o e => Heap.get?_push_of_some _ e) (Heap.get?_push_size _ rfl) (fun hn h' tk hk => ?_) fun hn v h' tk hP hk => ?_⟩
  · exact h0 hn h' tk fun b o hbw e => hk b o hbw (Nat.ne_of_lt (Heap.lt_size e)) (Heap.get?_push_of_some _ e)
  · exact hQ hn v h' tk hP fun b o hbw e => hk b o hbw (Nat.ne_of_lt (Heap.lt_size e)) (Heap.get?_push_of_some _ e)
end
/-- the greatest of numbers, 0 where there is none -/
def mx : List Nat → Nat
  | [] => 0
  | a :: l => max a (mx l)
theorem mx_le {n : Nat} : ∀ {l : List Nat}, (∀ x ∈ l, x ≤ n) → mx l ≤ n
  | [], _ => Nat.zero_le _
  | a :: l, h => by
    have := mx_le fun x hx => h x (List.mem_cons_of_mem _ hx)
    have := h a List.mem_cons_self
    rw [mx]
    omega
theorem le_mx {x : Nat} : ∀ {l : List Nat}, x ∈ l → x ≤ mx l
  | a :: l, h => by
    rw [mx]
    rcases List.mem_cons.mp h with rfl | h
    · omega
    · have := le_mx h
      omega
theorem mx_is {n : Nat} {l : List Nat} (m : n ∈ l) (h : ∀ x ∈ l, x ≤ n) : mx l = n := Nat.le_antisymm (mx_le h) (le_mx m)
theorem best_is {its : List Value} {ns : List Int} {xs : Array (Int × Tok)} {v : Value} (hn : (xs.toList.map (·.1)) = ns) (hsz : 0 < xs.size) (hv : (intItems xs)[argBest (fun i j => decide (numAt xs i > numAt xs j)) (xs.size - 1)]? = some v) : ∃ M t, v = .int M t ∧ M ∈ ns ∧ ∀ a ∈ ns, a ≤ M := by
  subst hn
  obtain ⟨t, rfl⟩ := intItems_at hv
  obtain ⟨h1, h2⟩ := argBest_gt (numAt xs) (xs.size - 1)
  refine ⟨_, t, rfl, ?_, fun a ha => ?_⟩
  · rw [numAt_eq]; exact PySem.getD_mem (by rw [List.length_map, Array.length_toList]; omega)
  · obtain ⟨j, hj, rfl⟩ := mem_getD ha
    rw [List.length_map, Array.length_toList] at hj
    rw [← numAt_eq]; exact h2 j (by omega)
theorem big_nat {M : Int} {ns : List Nat} (hm : M ∈ ns.map fun n : Nat => ((n : Nat) : Int)) (hle : ∀ a ∈ ns.map fun n : Nat => ((n : Nat) : Int), a ≤ M) : M = ((mx ns : Nat) : Int) := by
  obtain ⟨n, hn, rfl⟩ := List.mem_map.mp hm
  rw [mx_is hn fun x hx => by have := hle _ (List.mem_map.mpr ⟨x, hx, rfl⟩); omega]
section
variable {prog : Program} {w : World} {A : Around} {E : Value → Shared → Prop} {s : Shared} {l : Addr} {xs : Array (Int × Tok)}
theorem iter_tup {Q : Value → Shared → Prop} (hl : s.heap.IsTuple l (intItems xs)) (h : Q (.ref s.heap.objs.size) { s with heap := s.heap.push { cls := .type "tuple_iterator", data := .fields #[.ref l, .int 0 0] } }) : wpAny (model prog w) A (pyIter (.ref l)) Q E s := wpAny_pyIter_tuple hl h
theorem max_tupG {Q : Value → Shared → Prop} (hh : A.handled = none) (hl : s.heap.IsTuple l (intItems xs)) (hne : 0 < xs.size)
    (h : ∀ v h' tk, (intItems xs)[argBest (fun i j => decide (numAt xs i > numAt xs j)) (xs.size - 1)]? = some v → (∀ b o, s.heap.get? b = some o → h'.get? b = some o) → Q v { s with heap := h', toks := tk }) :
    wpAny (model prog w) A (call (.builtin "max") [.ref l]) Q E s := by
  have hlt : l < s.heap.objs.size := by obtain ⟨_, e, _⟩ := hl; exact Heap.lt_size e
  refine call_max_walk (wpAny_pyIter_tuple hl ?_)
  refine ⟨_, _, _, _, _, _, _, rfl, Walks.tuple (A := A.in1) hh _ l (Nat.ne_of_lt hlt) (intItems xs), ⟨⟨_, Heap.get?_push_size _ rfl, rfl, rfl⟩, hl.push _⟩, fun b hb => ?_, by simpa [intItems] using hne, CmpOf.ints_gt (numAt xs) (fun _ _ => intItems_at), fun v h' tk hP hk => ?_⟩
  · show b < (s.heap.push _).objs.size
    rw [Heap.size_push]
    rcases List.mem_cons.mp hb with rfl | hb
    · exact Nat.lt_succ_self _
    · rcases List.mem_cons.mp hb with rfl | hb
      · exact Nat.lt_succ_of_lt hlt
      · cases hb
  · refine h v h' tk (by simpa [intItems] using hP) fun b o e => ?_
    refine hk b o (fun hm => ?_) (Heap.get?_push_of_some _ e)
    have := List.mem_singleton.mp hm
    have hb := Heap.lt_size e
    rw [this] at hb
    exact absurd hb (Nat.lt_irrefl _)
theorem max_listD {d : Value} {Q : Value → Shared → Prop} (hh : A.handled = none) (hl : s.heap.IsList l (intItems xs))
    (h0 : xs.size = 0 → ∀ h' tk, (∀ b o, s.heap.get? b = some o → h'.get? b = some o) → Q d { s with heap := h', toks := tk })
    (h : 0 < xs.size → ∀ v h' tk, (intItems xs)[argBest (fun i j => decide (numAt xs i > numAt xs j)) (xs.size - 1)]? = some v → (∀ b o, s.heap.get? b = some o → h'.get? b = some o) → Q v { s with heap := h', toks := tk }) :
    wpAny (model prog w) A (call (.builtin "max") [.ref l] [(Str.ofString "default", d)]) Q E s := by
  refine call_max_walkD (iter_intList hl fun s₂ e st hfp hlI => ?_)
  subst e
  refine ⟨_, _, _, _, _, _, _, rfl, Walks.list (A := A.in1) hh _ l hlI (intItems xs), st, hfp, CmpOf.ints_gt (numAt xs) (fun _ _ => intItems_at), fun hn h' tk hk => ?_, fun hn v h' tk hP hk => ?_⟩
  · exact h0 (by simpa [intItems] using hn) h' tk (old_kept hk)
  · exact h (by simpa [intItems] using hn) v h' tk (by simpa [intItems] using hP) (old_kept hk)
end
section
variable {X : Cx}
/-- max of a tuple of numbers -/
theorem cr_maxT (hc : X.calm = true) : CallR X (.builtin "max") (fun vs H Q => ∃ (a : Addr) (ns : List Nat), vs = [V.ref a] ∧ H a = some (.tup (ns.map fun n : Nat => V.int (n : Nat))) ∧ 0 < ns.length ∧ Q (.int (mx ns : Nat)) H) := by
  intro pins s σ H vs us Q I r h
  obtain ⟨a, ns, rfl, ha, hne, q⟩ := h
  obtain ⟨its, rv, hl, _⟩ := I.tuple (.inl (.inl ha))
  rw [Vals.ref1 r]
  have e0 : (ns.map fun n : Nat => V.int (n : Nat)) = (ns.map fun n : Nat => ((n : Nat) : Int)).map V.int := by
    rw [List.map_map]
    rfl
  rw [e0] at rv
  have hi := rv.ints
  obtain ⟨xs, e⟩ := hi.allInts.items
  have hn : numsOf (intItems xs).toList = ns.map fun n : Nat => ((n : Nat) : Int) := by rw [← e]; exact hi.numsOf
  rw [nums_intItems] at hn
  have hl' : s.heap.IsTuple a (intItems xs) := by rw [← e]; exact hl
  have hz : 0 < xs.size := by
    have := congrArg List.length hn
    rw [List.length_map, List.length_map, Array.length_toList] at this
    omega
  refine max_tupG (I.ok.hd hc) hl' hz fun v h' tk hv hk => ?_
  obtain ⟨M, t, rfl, hm, hle⟩ := best_is (its := []) hn hz hv
  rw [big_nat hm hle]
  exact ⟨.int _, H, I.kept (t' := tk) hk, ⟨_, rfl⟩, q⟩
/-- max of a list of numbers -/
theorem cr_maxL (hc : X.calm = true) : CallR X (.builtin "max") (fun vs H Q => ∃ (a : Addr) (ns : List Nat), vs = [V.ref a] ∧ H a = some (.lst (ns.map fun n : Nat => V.int (n : Nat))) ∧ 0 < ns.length ∧ Q (.int (mx ns : Nat)) H) := by
  intro pins s σ H vs us Q I r h
  obtain ⟨a, ns, rfl, ha, hne, q⟩ := h
  refine cr_max hc pins s σ H _ us Q I r ⟨a, ns.map fun n : Nat => ((n : Nat) : Int), rfl, .inl (.inl (by rw [ha, List.map_map]; rfl)), by rw [List.length_map]; exact hne, fun m hm hle => ?_⟩
  rw [big_nat hm hle]
  exact q
/-- over a tuple, with the written part told apart -/
theorem pi_tupK {K : PySem.W.Frag} (hK : X.K = K) {tg l : Expr} {tl : TE} (hl : PE X l tl) : PI X tg l (iTup K tl) := by
  subst hK
  exact pi_tup hl
/-- n *= m -/
theorem ip_mul : PIp X .Mult (fun x y H Q => ∃ (k n : Nat), x = .int k ∧ y = .int n ∧ k < 2 ^ 1000 ∧ n < 2 ^ 1000 ∧ Q (.int ((k * n : Nat) : Int)) H) := by
  intro pins s σ H x y v u Q I r1 r2 h
  obtain ⟨k, n, e1, e2, h0, h1, q⟩ := h
  subst e1; subst e2
  obtain ⟨t, rfl⟩ := r1
  obtain ⟨t', rfl⟩ := r2
  rw [Int.natCast_mul] at q
  exact PyProof.Rows.imul_int ⟨.int _, H, I.tok _, ⟨_, rfl⟩, q⟩ (wide_mul (i := (k : Int)) (j := (n : Int)) (a := 1000) (b := 1000) h0 h1 (by decide) (by decide) (by decide)).ok
/-- max(list, default=number) -/
theorem pe_maxD {x : Str} {p kp pos : Pos} {e cst : Expr} {t : TA} {tc : TE} (hcalm : X.calm = true) (hg : Gl X x) (hm : X.mg x = none) (hv : bootBuiltins x = some (.builtin "max")) (ha : PA X [e] t) (hcst : PE X cst tc)
    (hn : x ≠ "__name__" := by decide) (hdb : (x == ("__debug__" : Str)) = false := by decide)
    (he : backTo pos (starEach [e] X.env) = (false, eval e X.env) :: backTo pos (starEach [] X.env) := by rfl) (hpl : (backTo pos (starEach [e] X.env)).any (·.1) = false := by rfl) :
    PE X (.Call (.Name x p) [e] [⟨some "default", cst, kp⟩] pos) (fun σ H Q => t σ H fun vs H1 => tc σ H1 fun d H2 => ∃ (a : Addr) (ns : List Nat), vs = [V.ref a] ∧ H2 a = some (.lst (ns.map fun n : Nat => V.int (n : Nat))) ∧ d = .int 0 ∧ Q (.int (mx ns : Nat)) H2) := by
  refine ⟨fun pins s σ H Q I h => ?_⟩
  refine wpAny_Call_Name_kw (ld_blt I hg hm hv ?_ hn hdb)
  refine PyProof.Rows.callWith_kw (thn (ha.run pos pins s σ H _ I h) fun us s1 ⟨vs, H1, I1, r1, q1⟩ => ?_) he hpl rfl rfl
  show wpAny _ _ (evalAll ((do let v ← eval cst X.env; standAt pos; pure v) :: [])) _ _ s1
  refine wpAny_evalAll_cons (wpAny_bind (wpAny_mono (hcst.run pins s1 σ H1 _ I1 q1) (fun dv s2 h2 => ?_) fun _ _ e => e))
  obtain ⟨d, H2, I2, rd, q2⟩ := h2
  refine wpAny_bind (wpAny_standAt (wpAny_pure ?_))
  refine wpAny_evalAll_nil ?_
  obtain ⟨a, ns, rfl, hs, rfl, q⟩ := q2
  obtain ⟨td, rfl⟩ := rd
  rw [Vals.ref1 r1]
  show wpAny _ _ (call (.builtin "max") [.ref a] [(Str.ofString "default", .int 0 td)]) _ _ s2
  obtain ⟨its, rv, hl, _⟩ := I2.list (.inl (.inl hs))
  have e0 : (ns.map fun n : Nat => V.int (n : Nat)) = (ns.map fun n : Nat => ((n : Nat) : Int)).map V.int := by
    rw [List.map_map]
    rfl
  rw [e0] at rv
  have hi := rv.ints
  obtain ⟨xs, ex⟩ := hi.allInts.items
  have hn' : numsOf (intItems xs).toList = ns.map fun n : Nat => ((n : Nat) : Int) := by rw [← ex]; exact hi.numsOf
  rw [nums_intItems] at hn'
  have hl' : s2.heap.IsList a (intItems xs) := by rw [← ex]; exact hl.isList
  refine max_listD (I2.ok.hd hcalm) hl' (fun h0 h' tk hk => ?_) fun hz v h' tk hv hk => ?_
  · have en : ns = [] := List.length_eq_zero_iff.mp (by
      have := congrArg List.length hn'
      rw [List.length_map, List.length_map, Array.length_toList] at this
      omega)
    subst en
    exact ⟨.int _, H2, I2.kept (t' := tk) hk, ⟨_, rfl⟩, q⟩
  · obtain ⟨M, t', rfl, hm', hle⟩ := best_is (its := []) hn' hz hv
    rw [big_nat hm' hle] at *
    exact ⟨.int _, H2, I2.kept (t' := tk) hk, ⟨_, rfl⟩, q⟩
end
end CK

set_option Elab.async false
set_option linter.all false
set_option maxRecDepth 100000
set_option maxHeartbeats 4000000
/-! min of a list of data, min(.., default=None), > of data, enumerate(list, start=1), a def that is called by itself -/
namespace CK
open PySem PySem.Spec PyProof.Rows L2 PySem.W
section
variable {prog : Program} {w : World} {A : Around} {E : Value → Shared → Prop} {s : Shared}
/-- the place of the least, too -/
theorem min_at {l : Addr} {vs : Array Value} {x : PyData} {xs : List PyData} {as : List Addr} {Q : Value → Shared → Prop} (hh : A.handled = none) (hl : s.heap.IsList l vs) (hr : ReadsAll s.heap vs.toList (x :: xs) as) (ha : AlikeAll (x :: xs)) (hu : A.units + 1 + PyData.depthAll (x :: xs) < cLine)
    (q : ∀ (i : Nat) v h' tk, vs[i]? = some v → i < vs.size → (x :: xs).getD i .none = minD x xs → (∀ b o, s.heap.get? b = some o → h'.get? b = some o) → Q v { s with heap := h', toks := tk }) :
    wpAny (model prog w) A (call (.builtin "min") [.ref l]) Q E s := by
  have en : vs.size = xs.length + 1 := by
    obtain ⟨ls⟩ := vs
    have : ∀ {vs : List Value} {ds : List PyData} {as : List Addr}, ReadsAll s.heap vs ds as → vs.length = ds.length := fun h => by
      induction h using ReadsAll.rec (motive_1 := fun _ _ _ _ => True) with
      | nil => rfl
      | cons _ _ _ ih => exact congrArg (· + 1) ih
      | _ => trivial
    exact this hr
  refine call_min_walkH (iter_listW (A := A.in1) hh hl fun s₂ e W st hfp hw hk => ?_)
  refine ⟨_, _, _, _, _, _, _, s.heap, _, rfl, W, st, hfp, by omega, hw, hk, cmpIn_lt (A := A.in1) hr ha hu, fun v s' hv m => ?_⟩
  obtain ⟨h', tk, rfl, hk'⟩ := moved_old e rfl m
  obtain ⟨f1, f2⟩ := argBest_fold dataLt PyData.none x xs xs.length (Nat.le_refl _)
  rw [List.take_length] at f2
  have ez : vs.size - 1 = xs.length := by omega
  rw [ez] at hv
  exact q _ v h' tk hv (by omega) f2 hk'
theorem min_atD {l : Addr} {vs : Array Value} {xs : List PyData} {as : List Addr} {d : Value} {Q : Value → Shared → Prop} (hh : A.handled = none) (hl : s.heap.IsList l vs) (hr : ReadsAll s.heap vs.toList xs as) (ha : AlikeAll xs) (hu : A.units + 1 + PyData.depthAll xs < cLine)
    (q0 : xs = [] → ∀ h' tk, (∀ b o, s.heap.get? b = some o → h'.get? b = some o) → Q d { s with heap := h', toks := tk })
    (q : ∀ (y : PyData) (ys : List PyData) (i : Nat) v h' tk, xs = y :: ys → vs[i]? = some v → i < vs.size → xs.getD i .none = minD y ys → (∀ b o, s.heap.get? b = some o → h'.get? b = some o) → Q v { s with heap := h', toks := tk }) :
    wpAny (model prog w) A (call (.builtin "min") [.ref l] [(Str.ofString "default", d)]) Q E s := by
  have en : vs.size = xs.length := by
    obtain ⟨ls⟩ := vs
    have : ∀ {vs : List Value} {ds : List PyData} {as : List Addr}, ReadsAll s.heap vs ds as → vs.length = ds.length := fun h => by
      induction h using ReadsAll.rec (motive_1 := fun _ _ _ _ => True) with
      | nil => rfl
      | cons _ _ _ ih => exact congrArg (· + 1) ih
      | _ => trivial
    exact this hr
  refine call_min_walkD (iter_listW (A := A.in1) hh hl fun s₂ e W st hfp hw hk => ?_)
  refine ⟨_, _, _, _, _, _, _, s.heap, (fun i j => dataLt (xs.getD i .none) (xs.getD j .none)), rfl, W, st, hfp, hw, hk, fun hz s' m => ?_, fun hp => ⟨cmpIn_lt (A := A.in1) hr ha hu, fun v s' hv m => ?_⟩⟩
  · obtain ⟨h', tk, rfl, hk'⟩ := moved_old e rfl m
    exact q0 (List.eq_nil_of_length_eq_zero (by omega)) h' tk hk'
  · obtain ⟨h', tk, rfl, hk'⟩ := moved_old e rfl m
    cases xs with
    | nil => exact absurd hp (by rw [en]; exact Nat.lt_irrefl 0)
    | cons y ys =>
      obtain ⟨f1, f2⟩ := argBest_fold dataLt PyData.none y ys ys.length (Nat.le_refl _)
      rw [List.take_length] at f2
      rw [show vs.size - 1 = ys.length by rw [en]; rfl] at hv
      exact q y ys _ v h' tk rfl hv (by rw [en]; exact Nat.lt_succ_of_le f1) f2 hk'
end
theorem dpAll_lenM {K : PySem.W.Frag} {H : Hp} : ∀ {es : List PyData} {vs : List V}, DpAll K H vs es → vs.length = es.length
  | [], _, h => by cases h; rfl
  | _ :: _, _, h => by
    cases h with
    | cons _ t => exact congrArg (· + 1) (dpAll_lenM t)
section
variable {X : Cx}
/-- min(xs), a list of data that are alike -/
def rMinA (K : PySem.W.Frag) : List V → Hp → VK → Prop := fun vs H Q => ∃ (a : Addr) (xs : List V) (x : PyData) (ds : List PyData), vs = [V.ref a] ∧ SqL K H a xs ∧ DpAll K H xs (x :: ds) ∧ AlikeAll (x :: ds) ∧ PyData.depthAll (x :: ds) ≤ 60 ∧ ∀ (i : Nat) v, xs[i]? = some v → (x :: ds)[i]? = some (minD x ds) → Q v H
theorem cr_minA (hc : X.calm = true) (hu : X.A.units + 64 < cLine) : CallR X (.builtin "min") (rMinA X.K) := by
  intro pins s σ H vs us Q I r h
  obtain ⟨a, xs, x, ds, rfl, hs, hd, hal, hb, q⟩ := h
  obtain ⟨its, rv, hl, hz⟩ := I.list hs
  rw [Vals.ref1 r]
  obtain ⟨as, hr⟩ := Dp.readsAll I _ _ _ hd rv
  have ld := dpAll_lenM hd
  refine min_at (I.ok.hd hc) hl.isList (by simpa using hr) hal (by show X.A.units + 1 + _ < _; omega) fun i v h' tk hv hi e hk => ?_
  have hv' : its[i]? = some v := by simpa using hv
  have lx := rv.length
  have hi' : i < xs.length := by simpa [lx] using hi
  obtain ⟨u, hu', ru⟩ := rv.get (List.getElem?_eq_getElem hi')
  have : u = v := Option.some.inj (hu'.symm.trans hv')
  subst this
  refine ⟨_, H, I.kept (t' := tk) hk, ru, q i _ (List.getElem?_eq_getElem hi') ?_⟩
  have hi2 : i < (x :: ds).length := by omega
  rw [List.getD_eq_getElem?_getD, List.getElem?_eq_getElem hi2] at e
  rw [List.getElem?_eq_getElem hi2]
  exact congrArg some e
/-- min(xs, default=None) -/
theorem pe_minN {x : Str} {p kp pos : Pos} {e cst : Expr} {t : TA} {tc : TE} (hcalm : X.calm = true) (hu : X.A.units + 64 < cLine) (hg : Gl X x) (hm : X.mg x = none) (hv : bootBuiltins x = some (.builtin "min")) (ha : PA X [e] t) (hcst : PE X cst tc)
    (hn : x ≠ "__name__" := by decide) (hdb : (x == ("__debug__" : Str)) = false := by decide)
    (he : backTo pos (starEach [e] X.env) = (false, eval e X.env) :: backTo pos (starEach [] X.env) := by rfl) (hpl : (backTo pos (starEach [e] X.env)).any (·.1) = false := by rfl) :
    PE X (.Call (.Name x p) [e] [⟨some "default", cst, kp⟩] pos) (fun σ H Q => t σ H fun vs H1 => tc σ H1 fun d H2 => ∃ (a : Addr) (xs : List V) (ds : List PyData), vs = [V.ref a] ∧ SqL X.K H2 a xs ∧ DpAll X.K H2 xs ds ∧ AlikeAll ds ∧ PyData.depthAll ds ≤ 60 ∧ (ds = [] → Q d H2) ∧ ∀ y ys, ds = y :: ys → ∀ (i : Nat) v, xs[i]? = some v → ds[i]? = some (minD y ys) → Q v H2) := by
  refine ⟨fun pins s σ H Q I h => ?_⟩
  refine wpAny_Call_Name_kw (ld_blt I hg hm hv ?_ hn hdb)
  refine PyProof.Rows.callWith_kw (thn (ha.run pos pins s σ H _ I h) fun us s1 ⟨vs, H1, I1, r1, q1⟩ => ?_) he hpl rfl rfl
  show wpAny _ _ (evalAll ((do let v ← eval cst X.env; standAt pos; pure v) :: [])) _ _ s1
  refine wpAny_evalAll_cons (wpAny_bind (wpAny_mono (hcst.run pins s1 σ H1 _ I1 q1) (fun dv s2 h2 => ?_) fun _ _ e => e))
  obtain ⟨d, H2, I2, rd, q2⟩ := h2
  refine wpAny_bind (wpAny_standAt (wpAny_pure ?_))
  refine wpAny_evalAll_nil ?_
  obtain ⟨a, xs, ds, rfl, hs, hd, hal, hb, q0, q⟩ := q2
  rw [Vals.ref1 r1]
  show wpAny _ _ (call (.builtin "min") [.ref a] [(Str.ofString "default", dv)]) _ _ s2
  obtain ⟨its, rv, hl, hz⟩ := I2.list hs
  obtain ⟨as, hr⟩ := Dp.readsAll I2 _ _ _ hd rv
  have ld := dpAll_lenM hd
  refine min_atD (I2.ok.hd hcalm) hl.isList (by simpa using hr) hal (by show X.A.units + 1 + _ < _; omega) (fun e h' tk hk => ⟨d, H2, I2.kept (t' := tk) hk, rd, q0 e⟩) fun y ys i v h' tk ed hv hi e hk => ?_
  have hv' : its[i]? = some v := by simpa using hv
  have lx := rv.length
  have hi' : i < xs.length := by simpa [lx] using hi
  obtain ⟨u, hu', ru⟩ := rv.get (List.getElem?_eq_getElem hi')
  have : u = v := Option.some.inj (hu'.symm.trans hv')
  subst this
  refine ⟨_, H2, I2.kept (t' := tk) hk, ru, q y ys ed i _ (List.getElem?_eq_getElem hi') ?_⟩
  have hi2 : i < ds.length := by omega
  rw [List.getD_eq_getElem?_getD, List.getElem?_eq_getElem hi2] at e
  rw [List.getElem?_eq_getElem hi2]
  exact congrArg some e
/-- the same with the written part told apart -/
def tMinN (K : PySem.W.Frag) (t : TA) (tc : TE) : TE := fun σ H Q => t σ H fun vs H1 => tc σ H1 fun d H2 => ∃ (a : Addr) (xs : List V) (ds : List PyData), vs = [V.ref a] ∧ SqL K H2 a xs ∧ DpAll K H2 xs ds ∧ AlikeAll ds ∧ PyData.depthAll ds ≤ 60 ∧ (ds = [] → Q d H2) ∧ ∀ y ys, ds = y :: ys → ∀ (i : Nat) v, xs[i]? = some v → ds[i]? = some (minD y ys) → Q v H2
theorem pe_minNK {K : PySem.W.Frag} {x : Str} {p kp pos : Pos} {e cst : Expr} {t : TA} {tc : TE} (hK : X.K = K) (hcalm : X.calm = true) (hu : X.A.units + 64 < cLine) (hg : Gl X x) (hm : X.mg x = none) (hv : bootBuiltins x = some (.builtin "min")) (ha : PA X [e] t) (hcst : PE X cst tc)
    (hn : x ≠ "__name__" := by decide) (hdb : (x == ("__debug__" : Str)) = false := by decide)
    (he : backTo pos (starEach [e] X.env) = (false, eval e X.env) :: backTo pos (starEach [] X.env) := by rfl) (hpl : (backTo pos (starEach [e] X.env)).any (·.1) = false := by rfl) :
    PE X (.Call (.Name x p) [e] [⟨some "default", cst, kp⟩] pos) (tMinN K t tc) := by
  subst hK
  exact pe_minN hcalm hu hg hm hv ha hcst hn hdb he hpl
/-- x > y of data that are alike -/
def rGtD (K : PySem.W.Frag) : R2 := fun x y H Q => ∃ d e, Dp K H x d ∧ Dp K H y e ∧ alike d e = true ∧ d ≠ .none ∧ d.depth ≤ 60 ∧ Q (.bl (dataLt e d)) H
theorem op_gtD (hu : X.A.units + 64 < cLine) : OpR X (compareOp .Gt) (rGtD X.K) := by
  intro pins s σ H x y v u Q I rx ry h
  obtain ⟨d, e, hd, he, ha, hn, hb, q⟩ := h
  obtain ⟨as, r1⟩ := Dp.reads I d x v hd rx
  obtain ⟨bs, r2⟩ := Dp.reads I e y u he ry
  have := Nat.min_le_left d.depth e.depth
  exact gt_data r1 r2 ha hn (by omega) ⟨.bl _, H, I, rfl, q⟩
end
end CK

set_option Elab.async false
set_option linter.all false
set_option maxRecDepth 100000
set_option maxHeartbeats 4000000
namespace K61
open PySem PySem.Spec PyProof.Rows L2 CK
def topS (i : Nat) : Stmt := PySem.Challenge.pw_countscribe_k61_least_plain_writers.main.body.getD i (.Pass ⟨0, 0, 0, 0⟩)
theorem sc_is_whole : FnScope ["value"] ["value"] (C8.fnScope (topS 8)) := C8.fnScope_by (by decide +kernel)
theorem sc_is_count : FnScope ["value"] ["value"] (C8.fnScope (topS 9)) := C8.fnScope_by (by decide +kernel)
theorem sc_is_lettered : FnScope ["value", "most"] ["value", "most"] (C8.fnScope (topS 10)) := C8.fnScope_by (by decide +kernel)
theorem sc_need_word : FnScope ["value"] ["value"] (C8.fnScope (topS 11)) := C8.fnScope_by (by decide +kernel)
theorem sc_plain_form : FnScope ["number", "many"] ["number", "many"] (C8.fnScope (topS 13)) := C8.fnScope_by (by decide +kernel)
theorem sc_turned_word : FnScope ["word", "by", "at"] ["word", "by"] (C8.fnScope (topS 15)) := C8.fnScope_by (by decide +kernel)
theorem sc_border_sizes : FnScope ["word", "sizes", "size", "at"] ["word"] (C8.fnScope (topS 16)) := C8.fnScope_by (by decide +kernel)
theorem sc_root_sizes : FnScope ["word", "sizes", "size", "border", "step"] ["word"] (C8.fnScope (topS 17)) := C8.fnScope_by (by decide +kernel)
theorem sc_fixed_piece : FnScope ["word", "many"] ["word", "many"] (C8.fnScope (topS 19)) := C8.fnScope_by (by decide +kernel)
theorem sc_Prices___init__ : FnScope ["self", "letter", "sign", "unknown", "number", "price"] ["self", "letter", "sign", "unknown", "number"] (C8.fnScope (inClass (topS 22) 0)) := C8.fnScope_by (by decide +kernel)
theorem sc_Prices_of : FnScope ["self", "vector", "letters", "signs", "unknowns", "numbers"] ["self", "vector"] (C8.fnScope (inClass (topS 22) 1)) := C8.fnScope_by (by decide +kernel)
theorem sc_need_vector : FnScope ["value", "number"] ["value"] (C8.fnScope (topS 23)) := C8.fnScope_by (by decide +kernel)
theorem sc_chosen_prices : FnScope ["value"] ["value"] (C8.fnScope (topS 24)) := C8.fnScope_by (by decide +kernel)
theorem sc_piece_vector : FnScope ["piece", "word", "form", "number"] ["piece"] (C8.fnScope (topS 25)) := C8.fnScope_by (by decide +kernel)
theorem sc_plain_steps : FnScope ["bare", "many", "prices", "rows", "low", "rest", "steps", "size", "root", "pieces", "piece"] ["bare", "many", "prices"] (C8.fnScope (topS 27)) := C8.fnScope_by (by decide +kernel)
theorem sc_priced_step : FnScope ["piece", "high", "prices"] ["piece", "high", "prices"] (C8.fnScope (topS 28)) := C8.fnScope_by (by decide +kernel)
theorem sc_power_pieces : FnScope ["spot", "low", "word", "form", "place", "reach", "ahead", "size", "copies"] ["spot", "low"] (C8.fnScope (topS 29)) := C8.fnScope_by (by decide +kernel)
theorem sc_power_steps : FnScope ["bare", "spot", "prices", "rows", "low", "piece", "high"] ["bare", "spot", "prices"] (C8.fnScope (topS 30)) := C8.fnScope_by (by decide +kernel)
theorem sc_best_rests : FnScope ["bare", "spots", "many", "prices", "steps", "rests", "row", "jumps", "entered", "found"] ["bare", "spots", "many", "prices"] (C8.fnScope (topS 31)) := C8.fnScope_by (by decide +kernel)
theorem sc_filled_row : FnScope ["entered", "steps", "row", "own", "place", "found"] ["entered", "steps", "row"] (C8.fnScope (topS 32)) := C8.fnScope_by (by decide +kernel)
theorem sc_ways_on : FnScope ["steps", "row", "rests", "found", "cost", "piece", "high"] ["steps", "row", "rests"] (C8.fnScope (topS 33)) := C8.fnScope_by (by decide +kernel)
theorem sc_best_pieces : FnScope ["rests", "pieces", "rest"] ["rests"] (C8.fnScope (topS 34)) := C8.fnScope_by (by decide +kernel)
theorem sc_least_plain : FnScope ["word", "prices", "rests"] ["word", "prices"] (C8.fnScope (topS 36)) := C8.fnScope_by (by decide +kernel)
theorem sc_plain_pairs : FnScope ["pieces", "part", "form"] ["pieces"] (C8.fnScope (topS 37)) := C8.fnScope_by (by decide +kernel)
theorem sc_law_hash : FnScope ["_law_seed", "_law_index", "_law_mixed"] ["_law_seed", "_law_index"] (C8.fnScope (topS 39)) := C8.fnScope_by (by decide +kernel)
theorem sc_law_random : FnScope ["_law_generator_here", "_law_bound", "_law_drawn", "_law_turn"] ["_law_generator_here", "_law_bound"] (C8.fnScope (topS 40)) := C8.fnScope_by (by decide +kernel)
theorem sc_law_cell : FnScope ["_law_script", "_law_index"] ["_law_script", "_law_index"] (C8.fnScope (topS 41)) := C8.fnScope_by (by decide +kernel)
theorem sc_law_generator : FnScope ["_law_script", "_law_index", "_law_seed"] ["_law_script", "_law_index"] (C8.fnScope (topS 42)) := C8.fnScope_by (by decide +kernel)
theorem sc_law_letters : FnScope ["_law_generator_here", "_law_left", "_law_turn"] ["_law_generator_here"] (C8.fnScope (topS 43)) := C8.fnScope_by (by decide +kernel)
theorem sc_law_word : FnScope ["_law_generator_here", "_law_signs", "_law_least", "_law_most", "_law_many", "_law_turn"] ["_law_generator_here", "_law_signs", "_law_least", "_law_most"] (C8.fnScope (topS 44)) := C8.fnScope_by (by decide +kernel)
theorem sc_law_four : FnScope ["_law_generator_here", "_law_most", "_law_turn"] ["_law_generator_here"] (C8.fnScope (topS 45)) := C8.fnScope_by (by decide +kernel)
theorem sc_law_prices : FnScope ["_law_four_here"] ["_law_four_here"] (C8.fnScope (topS 47)) := C8.fnScope_by (by decide +kernel)
theorem sc_law_parts : FnScope ["_law_generator_here", "_law_signs", "_law_most", "_law_found", "_law_turn", "_law_part"] ["_law_generator_here", "_law_signs", "_law_most"] (C8.fnScope (topS 48)) := C8.fnScope_by (by decide +kernel)
theorem sc_law_spelled : FnScope ["_law_writer", "_law_part", "_law_times"] ["_law_writer"] (C8.fnScope (topS 49)) := C8.fnScope_by (by decide +kernel)
theorem sc_law_pair : FnScope ["_law_writer", "_law_part", "_law_times"] ["_law_writer"] (C8.fnScope (topS 50)) := C8.fnScope_by (by decide +kernel)
theorem sc_law_plain_cost : FnScope ["_law_four_here", "_law_writer", "_law_letters_here", "_law_signs"] ["_law_four_here", "_law_writer"] (C8.fnScope (topS 51)) := C8.fnScope_by (by decide +kernel)
theorem sc_law_all_writers : FnScope ["_law_word_here", "_law_found", "_law_size", "_law_times", "_law_rest"] ["_law_word_here"] (C8.fnScope (topS 52)) := C8.fnScope_by (by decide +kernel)
theorem sc_law_is_plain_writer : FnScope ["_law_word_here", "_law_writer", "_law_thing"] ["_law_word_here", "_law_writer"] (C8.fnScope (topS 53)) := C8.fnScope_by (by decide +kernel)
theorem sc_law_told_right : FnScope ["_law_word_here", "_law_four_here", "_law_told"] ["_law_word_here", "_law_four_here", "_law_told"] (C8.fnScope (topS 54)) := C8.fnScope_by (by decide +kernel)
theorem sc_law_rank : FnScope ["_law_four_here", "_law_writer"] ["_law_four_here", "_law_writer"] (C8.fnScope (topS 55)) := C8.fnScope_by (by decide +kernel)
theorem sc_law_long_right : FnScope ["_law_four_here", "_law_prices_here", "_law_word_here", "_law_writer", "_law_told", "_law_rank_here", "_law_sign", "_law_kept"] ["_law_four_here", "_law_prices_here", "_law_word_here", "_law_writer"] (C8.fnScope (topS 56)) := C8.fnScope_by (by decide +kernel)
theorem sc_law_short_right : FnScope ["_law_four_here", "_law_prices_here", "_law_word_here", "_law_told", "_law_first", "_law_writer", "_law_ones"] ["_law_four_here", "_law_prices_here", "_law_word_here"] (C8.fnScope (topS 57)) := C8.fnScope_by (by decide +kernel)
theorem sc_law : FnScope ["_law_script", "_law_generator_here", "_law_signs", "_law_writer", "_law_four_here", "_law_word_here", "_law_other", "_law_prices_here", "_law_short"] ["_law_script"] (C8.fnScope (topS 58)) := C8.fnScope_by (by decide +kernel)
structure Txt (K : PySem.W.Frag) (mg : Str → Option Value) (C : Addr) : Prop where
  k_Prices : ClF K mg "Prices" C
  f_letter : NoAttr K C "letter"
  f_number : NoAttr K C "number"
  f_sign : NoAttr K C "sign"
  f_unknown : NoAttr K C "unknown"
  d_is_whole : DefF K mg "is_whole" (topS 8) ["value"]
  d_is_count : DefF K mg "is_count" (topS 9) ["value"]
  d_is_lettered : DefF K mg "is_lettered" (topS 10) ["value", "most"]
  d_need_word : DefF K mg "need_word" (topS 11) ["value"]
  d_plain_form : DefF K mg "plain_form" (topS 13) ["number", "many"]
  d_turned_word : DefF K mg "turned_word" (topS 15) ["word", "by"]
  d_border_sizes : DefF K mg "border_sizes" (topS 16) ["word"]
  d_root_sizes : DefF K mg "root_sizes" (topS 17) ["word"]
  d_fixed_piece : DefF K mg "fixed_piece" (topS 19) ["word", "many"]
  d_Prices___init__ : MetD K C "__init__" "Prices.__init__" (inClass (topS 22) 0) [] [("letter", .int 1), ("sign", .int 1), ("unknown", .int 1), ("number", .int 1)]
  d_Prices_of : MetF K C "of" "Prices.of" (inClass (topS 22) 1) ["self", "vector"]
  d_need_vector : DefF K mg "need_vector" (topS 23) ["value"]
  d_chosen_prices : DefF K mg "chosen_prices" (topS 24) ["value"]
  d_piece_vector : DefF K mg "piece_vector" (topS 25) ["piece"]
  d_plain_steps : DefF K mg "plain_steps" (topS 27) ["bare", "many", "prices"]
  d_priced_step : DefF K mg "priced_step" (topS 28) ["piece", "high", "prices"]
  d_power_pieces : DefF K mg "power_pieces" (topS 29) ["spot", "low"]
  d_power_steps : DefF K mg "power_steps" (topS 30) ["bare", "spot", "prices"]
  d_best_rests : DefF K mg "best_rests" (topS 31) ["bare", "spots", "many", "prices"]
  d_filled_row : DefF K mg "filled_row" (topS 32) ["entered", "steps", "row"]
  d_ways_on : DefF K mg "ways_on" (topS 33) ["steps", "row", "rests"]
  d_best_pieces : DefF K mg "best_pieces" (topS 34) ["rests"]
  d_least_plain : DefD K mg "least_plain" (topS 36) [.non] []
  d_plain_pairs : DefF K mg "plain_pairs" (topS 37) ["pieces"]
  d_law_hash : DefF K mg "_law_hash" (topS 39) ["_law_seed", "_law_index"]
  d_law_random : DefF K mg "_law_random" (topS 40) ["_law_generator_here", "_law_bound"]
  d_law_cell : DefF K mg "_law_cell" (topS 41) ["_law_script", "_law_index"]
  d_law_generator : DefF K mg "_law_generator" (topS 42) ["_law_script", "_law_index"]
  d_law_letters : DefF K mg "_law_letters" (topS 43) ["_law_generator_here"]
  d_law_word : DefF K mg "_law_word" (topS 44) ["_law_generator_here", "_law_signs", "_law_least", "_law_most"]
  d_law_four : DefF K mg "_law_four" (topS 45) ["_law_generator_here"]
  d_law_prices : DefF K mg "_law_prices" (topS 47) ["_law_four_here"]
  d_law_parts : DefF K mg "_law_parts" (topS 48) ["_law_generator_here", "_law_signs", "_law_most"]
  d_law_spelled : DefF K mg "_law_spelled" (topS 49) ["_law_writer"]
  d_law_pair : DefF K mg "_law_pair" (topS 50) ["_law_writer"]
  d_law_plain_cost : DefF K mg "_law_plain_cost" (topS 51) ["_law_four_here", "_law_writer"]
  d_law_all_writers : DefF K mg "_law_all_writers" (topS 52) ["_law_word_here"]
  d_law_is_plain_writer : DefF K mg "_law_is_plain_writer" (topS 53) ["_law_word_here", "_law_writer"]
  d_law_told_right : DefF K mg "_law_told_right" (topS 54) ["_law_word_here", "_law_four_here", "_law_told"]
  d_law_rank : DefF K mg "_law_rank" (topS 55) ["_law_four_here", "_law_writer"]
  d_law_long_right : DefF K mg "_law_long_right" (topS 56) ["_law_four_here", "_law_prices_here", "_law_word_here", "_law_writer"]
  d_law_short_right : DefF K mg "_law_short_right" (topS 57) ["_law_four_here", "_law_prices_here", "_law_word_here"]
  d_law : DefF K mg "law" (topS 58) ["_law_script"]
  m_all : mg "all" = none
  m_bool : mg "bool" = none
  m_enumerate : mg "enumerate" = none
  m_int : mg "int" = none
  m_isinstance : mg "isinstance" = none
  m_len : mg "len" = none
  m_list : mg "list" = none
  m_max : mg "max" = none
  m_min : mg "min" = none
  m_range : mg "range" = none
  m_repr : mg "repr" = none
  m_str : mg "str" = none
  m_sum : mg "sum" = none
  m_tuple : mg "tuple" = none
  k_MOST_LETTERS : ∃ u, mg "MOST_LETTERS" = some u ∧ RelV (.int 20000) u
  k_VECTOR_SIZE : ∃ u, mg "VECTOR_SIZE" = some u ∧ RelV (.int 4) u
end K61

set_option linter.all false
/-! words as lists of numbers: beginnings, borders, periods, powers, roots -/
namespace WM
abbrev W := List Nat
/-! ### beginnings in common -/
def lcp : W → W → Nat
  | x :: xs, y :: ys => if x = y then lcp xs ys + 1 else 0
  | _, _ => 0
theorem lcp_le : ∀ a b : W, lcp a b ≤ a.length ∧ lcp a b ≤ b.length
  | [], b => by simp [lcp]
  | _ :: _, [] => by simp [lcp]
  | x :: xs, y :: ys => by
    have := lcp_le xs ys
    unfold lcp
    split <;> simp <;> omega
theorem lcp_take : ∀ (a b : W) (k : Nat), k ≤ lcp a b → a.take k = b.take k
  | _, _, 0, _ => by simp
  | [], b, k + 1, h => by simp [lcp] at h
  | _ :: _, [], k + 1, h => by simp [lcp] at h
  | x :: xs, y :: ys, k + 1, h => by
    unfold lcp at h
    split at h
    · rename_i e
      subst e
      rw [List.take_succ_cons, List.take_succ_cons, lcp_take xs ys k (by omega)]
    · omega
theorem le_lcp : ∀ (a b : W) (k : Nat), k ≤ a.length → k ≤ b.length → a.take k = b.take k → k ≤ lcp a b
  | _, _, 0, _, _, _ => Nat.zero_le _
  | [], b, k + 1, h, _, _ => by simp at h
  | _ :: _, [], k + 1, _, h, _ => by simp at h
  | x :: xs, y :: ys, k + 1, h1, h2, h => by
    rw [List.take_succ_cons, List.take_succ_cons] at h
    injection h with e1 e2
    subst e1
    have := le_lcp xs ys k (by simpa using h1) (by simpa using h2) e2
    unfold lcp
    rw [if_pos rfl]
    omega
theorem lcp_iff {a b : W} {k : Nat} (h1 : k ≤ a.length) (h2 : k ≤ b.length) : a.take k = b.take k ↔ k ≤ lcp a b := ⟨le_lcp a b k h1 h2, lcp_take a b k⟩

/-! ### periods and borders -/
/-- letters that stand p apart are the same -/
def Per (p : Nat) (w : W) : Prop := ∀ i, i + p < w.length → w[i]? = w[i + p]?
/-- the first b letters are the last b -/
def Bor (b : Nat) (w : W) : Prop := b ≤ w.length ∧ ∀ i, i < b → w[i]? = w[w.length - b + i]?
instance (b : Nat) (w : W) : Decidable (Bor b w) := by unfold Bor; exact inferInstance
theorem bor_per {b : Nat} {w : W} (h : Bor b w) : Per (w.length - b) w := fun i hi => by
  rw [h.2 i (by have := h.1; omega), Nat.add_comm i]
theorem per_bor {p : Nat} {w : W} (hp : p ≤ w.length) (h : Per p w) : Bor (w.length - p) w := by
  refine ⟨Nat.sub_le _ _, fun i hi => ?_⟩
  rw [h i (by omega)]
  congr 1
  omega
theorem per_zero (w : W) : Per 0 w := fun i _ => rfl
theorem per_len {p : Nat} {w : W} (h : w.length ≤ p) : Per p w := fun i hi => by omega
theorem per_take {p k : Nat} {w : W} (h : Per p w) : Per p (w.take k) := fun i hi => by
  rw [List.length_take] at hi
  rw [List.getElem?_take_of_lt (by omega), List.getElem?_take_of_lt (by omega)]
  exact h i (by omega)
theorem per_mul {p : Nat} {w : W} (h : Per p w) : ∀ (k i : Nat), i + p * k < w.length → w[i]? = w[i + p * k]?
  | 0, i, _ => by simp
  | k + 1, i, hi => by
    rw [Nat.mul_succ] at hi ⊢
    rw [per_mul h k i (by omega), h (i + p * k) (by omega)]
    congr 1
    omega
/-- Fine and Wilf's, the weak form -/
theorem per_sub {p q : Nat} {w : W} (hpq : p ≤ q) (hp : Per p w) (hq : Per q w) (hl : p + q ≤ w.length) : Per (q - p) w := fun i hi => by
  by_cases h : i + q < w.length
  · rw [hq i h]
    have := hp (i + (q - p)) (by omega)
    rw [this]
    congr 1
    omega
  · have h1 : p ≤ i := by omega
    have a := hp (i - p) (by omega)
    have b := hq (i - p) (by omega)
    rw [show i - p + p = i by omega] at a
    rw [show i - p + q = i + (q - p) by omega] at b
    rw [← a, b]
theorem fine_wilf : ∀ (n p q : Nat) (w : W), p + q ≤ n → Per p w → Per q w → p + q ≤ w.length → Per (Nat.gcd p q) w
  | 0, p, q, w, hn, hp, hq, _ => by
    have e1 : p = 0 := by omega
    have e2 : q = 0 := by omega
    subst e1 e2
    exact hp
  | n + 1, p, q, w, hn, hp, hq, hl => by
    by_cases p0 : p = 0
    · subst p0
      rw [Nat.gcd_zero_left]
      exact hq
    by_cases q0 : q = 0
    · subst q0
      rw [Nat.gcd_zero_right]
      exact hp
    by_cases h : p ≤ q
    · have := fine_wilf n p (q - p) w (by omega) hp (per_sub h hp hq hl) (by omega)
      rw [Nat.gcd_sub_self_right h] at this
      exact this
    · have := fine_wilf n (p - q) q w (by omega) (per_sub (by omega) hq hp (by omega)) hq (by omega)
      rw [Nat.gcd_sub_self_left (by omega)] at this
      exact this
theorem per_gcd {p q : Nat} {w : W} (hp : Per p w) (hq : Per q w) (hl : p + q ≤ w.length) : Per (Nat.gcd p q) w := fine_wilf _ p q w (Nat.le_refl _) hp hq hl

/-! ### the longest border -/
def lbF (w : W) : Nat → Nat
  | 0 => 0
  | b + 1 => if Bor (b + 1) w then b + 1 else lbF w b
/-- how long the longest border is, besides the word itself -/
def lb (w : W) : Nat := lbF w (w.length - 1)
theorem bor_zero (w : W) : Bor 0 w := ⟨Nat.zero_le _, fun i h => by omega⟩
theorem lbF_bor (w : W) : ∀ b, Bor (lbF w b) w ∧ lbF w b ≤ b
  | 0 => ⟨bor_zero w, Nat.le_refl _⟩
  | b + 1 => by
    unfold lbF
    split
    · rename_i h
      exact ⟨h, Nat.le_refl _⟩
    · have := lbF_bor w b
      exact ⟨this.1, by omega⟩
theorem lbF_max (w : W) : ∀ b c, c ≤ b → Bor c w → c ≤ lbF w b
  | 0, c, h, _ => by omega
  | b + 1, c, h, hc => by
    unfold lbF
    split
    · omega
    · rename_i hn
      by_cases e : c = b + 1
      · subst e
        exact absurd hc hn
      · exact lbF_max w b c (by omega) hc
theorem lb_bor (w : W) : Bor (lb w) w := (lbF_bor w _).1
theorem lb_lt {w : W} (h : w ≠ []) : lb w < w.length := by
  have := (lbF_bor w (w.length - 1)).2
  have := List.length_pos_iff.mpr h
  unfold lb
  omega
theorem lb_max {w : W} {c : Nat} (h : c < w.length) (hc : Bor c w) : c ≤ lb w := lbF_max w _ c (by omega) hc
/-- a border of a border is a border; a shorter border is one of the longer -/
theorem bor_take {w : W} {b c : Nat} (hb : Bor b w) (hc : c ≤ b) : Bor c w ↔ Bor c (w.take b) := by
  have l : (w.take b).length = b := by rw [List.length_take]; have := hb.1; omega
  constructor
  · intro h
    refine ⟨by rw [l]; exact hc, fun i hi => ?_⟩
    rw [l, List.getElem?_take_of_lt (by omega), List.getElem?_take_of_lt (by omega), h.2 i hi, hb.2 (b - c + i) (by omega)]
    congr 1
    have := hb.1
    omega
  · intro h
    refine ⟨Nat.le_trans hc hb.1, fun i hi => ?_⟩
    have := h.2 i hi
    rw [l, List.getElem?_take_of_lt (by omega), List.getElem?_take_of_lt (by omega)] at this
    rw [this, hb.2 (b - c + i) (by omega)]
    congr 1
    have := hb.1
    omega
/-- a border, one letter longer -/
theorem bor_succ {w : W} {n b : Nat} (hn : n < w.length) (hb : b < n) : Bor (b + 1) (w.take (n + 1)) ↔ Bor b (w.take n) ∧ w[b]? = w[n]? := by
  have l1 : (w.take (n + 1)).length = n + 1 := by rw [List.length_take]; omega
  have l0 : (w.take n).length = n := by rw [List.length_take]; omega
  constructor
  · intro h
    refine ⟨⟨by omega, fun i hi => ?_⟩, ?_⟩
    · have := h.2 i (by omega)
      rw [l1, List.getElem?_take_of_lt (by omega), List.getElem?_take_of_lt (by omega)] at this
      rw [l0, List.getElem?_take_of_lt (by omega), List.getElem?_take_of_lt (by omega), this]
      congr 1
      omega
    · have := h.2 b (by omega)
      rw [l1, List.getElem?_take_of_lt (by omega), List.getElem?_take_of_lt (by omega)] at this
      rw [this]
      congr 1
      omega
  · rintro ⟨h, e⟩
    refine ⟨by omega, fun i hi => ?_⟩
    rw [l1, List.getElem?_take_of_lt (by omega), List.getElem?_take_of_lt (by omega)]
    by_cases z : i < b
    · have := h.2 i z
      rw [l0, List.getElem?_take_of_lt (by omega), List.getElem?_take_of_lt (by omega)] at this
      rw [this]
      congr 1
      omega
    · have e1 : i = b := by omega
      subst e1
      rw [e]
      congr 1
      omega
/-- the walk down the borders: the state at a turn of the inner loop -/
def Cand (w : W) (n s : Nat) : Prop := s < n ∧ Bor s (w.take n) ∧ ∀ b, b < n → Bor b (w.take n) → w[b]? = w[n]? → b ≤ s
theorem cand_start {w : W} {n : Nat} (hn : n ≤ w.length) (h0 : 0 < n) : Cand w n (lb (w.take n)) := by
  have l0 : (w.take n).length = n := by rw [List.length_take]; omega
  have ne : w.take n ≠ [] := fun z => by rw [z] at l0; simp at l0; omega
  refine ⟨by have := lb_lt ne; omega, lb_bor _, fun b hb h _ => lb_max (by omega) h⟩
theorem cand_down {w : W} {n s : Nat} (hn : n ≤ w.length) (h : Cand w n s) (hs : 0 < s) (hd : w[s]? ≠ w[n]?) : Cand w n (lb (w.take s)) := by
  obtain ⟨h1, h2, h3⟩ := h
  have ls : (w.take s).length = s := by rw [List.length_take]; omega
  have ne : w.take s ≠ [] := fun z => by rw [z] at ls; simp at ls; omega
  have lt := lb_lt ne
  have tt : (w.take n).take s = w.take s := by rw [List.take_take]; congr 1; omega
  have bs : Bor (lb (w.take s)) (w.take n) := by
    rw [bor_take h2 (by omega), tt]
    exact lb_bor _
  refine ⟨by omega, bs, fun b hb hB e => ?_⟩
  have le := h3 b hb hB e
  have ne2 : b ≠ s := fun z => hd (by rw [← z]; exact e)
  have : Bor b (w.take s) := by
    rw [← tt, ← bor_take h2 (by omega)]
    exact hB
  exact lb_max (by omega) this
theorem cand_hit {w : W} {n s : Nat} (hn : n < w.length) (h : Cand w n s) (e : w[s]? = w[n]?) : lb (w.take (n + 1)) = s + 1 := by
  obtain ⟨h1, h2, h3⟩ := h
  have l1 : (w.take (n + 1)).length = n + 1 := by rw [List.length_take]; omega
  have ne : w.take (n + 1) ≠ [] := fun z => by rw [z] at l1; simp at l1
  have hB : Bor (s + 1) (w.take (n + 1)) := (bor_succ hn h1).mpr ⟨h2, e⟩
  have le := lb_max (by omega) hB
  have lt := lb_lt ne
  have lB := lb_bor (w.take (n + 1))
  generalize lb (w.take (n + 1)) = x at le lt lB ⊢
  cases x with
  | zero => omega
  | succ x =>
    obtain ⟨a, b⟩ := (bor_succ hn (by omega)).mp lB
    have := h3 x (by omega) a b
    omega
theorem cand_miss {w : W} {n : Nat} (hn : n < w.length) (h : Cand w n 0) (e : w[0]? ≠ w[n]?) : lb (w.take (n + 1)) = 0 := by
  obtain ⟨h1, h2, h3⟩ := h
  have l1 : (w.take (n + 1)).length = n + 1 := by rw [List.length_take]; omega
  have ne : w.take (n + 1) ≠ [] := fun z => by rw [z] at l1; simp at l1
  have lt := lb_lt ne
  have lB := lb_bor (w.take (n + 1))
  generalize lb (w.take (n + 1)) = x at lt lB ⊢
  cases x with
  | zero => rfl
  | succ x =>
    obtain ⟨a, b⟩ := (bor_succ hn (by omega)).mp lB
    have := h3 x (by omega) a b
    have z : x = 0 := by omega
    subst z
    exact absurd b e
theorem lb_one {w : W} : lb (w.take 1) = 0 := by
  cases w with
  | nil => simp [lb, lbF]
  | cons x r => simp [lb, lbF]

/-! ### powers and roots -/
/-- w taken k times -/
def pw (w : W) (k : Nat) : W := (List.replicate k w).flatten
theorem pw_succ (w : W) (k : Nat) : pw w (k + 1) = w ++ pw w k := by unfold pw; rw [List.replicate_succ, List.flatten_cons]
theorem pw_zero (w : W) : pw w 0 = [] := rfl
theorem pw_len (w : W) : ∀ k, (pw w k).length = w.length * k
  | 0 => by simp [pw_zero]
  | k + 1 => by rw [pw_succ, List.length_append, pw_len w k, Nat.mul_succ, Nat.add_comm]
theorem pw_add (w : W) : ∀ a b, pw w (a + b) = pw w a ++ pw w b
  | 0, b => by rw [Nat.zero_add, pw_zero, List.nil_append]
  | a + 1, b => by rw [show a + 1 + b = a + b + 1 by omega, pw_succ, pw_add w a b, pw_succ, List.append_assoc]
theorem pw_get {w : W} (h : w ≠ []) : ∀ (k i : Nat), i < w.length * k → (pw w k)[i]? = w[i % w.length]?
  | 0, i, hi => by simp at hi
  | k + 1, i, hi => by
    have n0 := List.length_pos_iff.mpr h
    rw [pw_succ]
    by_cases z : i < w.length
    · rw [List.getElem?_append_left z, Nat.mod_eq_of_lt z]
    · have hm : w.length * (k + 1) = w.length * k + w.length := Nat.mul_succ ..
      rw [List.getElem?_append_right (by omega), pw_get h k _ (by omega), Nat.mod_eq_sub_mod (show i ≥ w.length by omega)]
/-- a word with a period that divides its length is a power -/
theorem per_pw {w : W} {d : Nat} (hd : 0 < d) (hp : Per d w) (hv : d ∣ w.length) : w = pw (w.take d) (w.length / d) := by
  obtain ⟨k, hk⟩ := hv
  by_cases k0 : k = 0
  · subst k0
    rw [Nat.mul_zero] at hk
    rw [List.length_eq_zero_iff.mp hk]
    simp [pw]
  have dl : d ≤ w.length := by rw [hk]; exact Nat.le_mul_of_pos_right d (by omega)
  have lt : (w.take d).length = d := by rw [List.length_take]; omega
  have ne : w.take d ≠ [] := fun z => by rw [z] at lt; simp at lt; omega
  have ek : w.length / d = k := by rw [hk]; exact Nat.mul_div_cancel_left k hd
  rw [ek]
  refine List.ext_getElem? fun i => ?_
  by_cases hi : i < w.length
  · rw [pw_get ne k i (by rw [lt, ← hk]; exact hi), lt, List.getElem?_take_of_lt (Nat.mod_lt i hd)]
    have := per_mul hp (i / d) (i % d) (by rw [Nat.mod_add_div]; exact hi)
    rw [this, Nat.mod_add_div]
  · rw [List.getElem?_eq_none (by omega), List.getElem?_eq_none (by rw [pw_len, lt, ← hk]; omega)]
theorem pw_per {u : W} (h : u ≠ []) (k : Nat) : Per u.length (pw u k) := fun i hi => by
  rw [pw_len] at hi
  rw [pw_get h k i (by omega), pw_get h k _ hi, Nat.add_mod_right]
/-- not empty, and no shorter word taken several times -/
def Prim (w : W) : Prop := w ≠ [] ∧ ∀ d, 0 < d → d ∣ w.length → Per d w → d = w.length
theorem prim_pw {w u : W} {k : Nat} (h : Prim w) (e : w = pw u k) : k = 1 ∧ u = w := by
  have une : u ≠ [] := fun z => by
    subst z
    apply h.1
    rw [e]
    simp [pw]
  have l : w.length = u.length * k := by rw [e, pw_len]
  have := h.2 u.length (List.length_pos_iff.mpr une) ⟨k, l⟩ (by rw [e]; exact pw_per une k)
  have n0 := List.length_pos_iff.mpr une
  have k1 : k = 1 := by
    rw [this] at l
    have : w.length * 1 = w.length * k := by omega
    exact (Nat.eq_of_mul_eq_mul_left (by omega) this).symm
  subst k1
  exact ⟨rfl, by rw [e, pw_succ, pw_zero, List.append_nil]⟩
/-- the root's length, as the program finds it -/
def rootN (w : W) : Nat := if w.length % (w.length - lb w) = 0 then w.length - lb w else w.length
theorem rootN_dvd (w : W) : rootN w ∣ w.length := by
  unfold rootN
  split
  · rename_i h
    exact Nat.dvd_of_mod_eq_zero h
  · exact Nat.dvd_refl _
theorem rootN_pos {w : W} (h : w ≠ []) : 0 < rootN w := by
  have := lb_lt h
  have := List.length_pos_iff.mpr h
  unfold rootN
  split <;> omega
theorem rootN_le {w : W} (h : w ≠ []) : rootN w ≤ w.length := Nat.le_of_dvd (List.length_pos_iff.mpr h) (rootN_dvd w)
theorem rootN_per (w : W) : Per (rootN w) w := by
  unfold rootN
  split
  · exact bor_per (lb_bor w)
  · exact per_len (Nat.le_refl _)
/-- no period is less than the program's step -/
theorem step_least {w : W} {p : Nat} (hp : 0 < p) (hl : p ≤ w.length) (h : Per p w) : w.length - lb w ≤ p := by
  have := lb_max (c := w.length - p) (by omega) (per_bor hl h)
  omega
/-- a period of the word that divides its length is a multiple of the root's -/
theorem root_div {w : W} (hw : w ≠ []) {d : Nat} (hd : 0 < d) (hv : d ∣ w.length) (h : Per d w) : rootN w ∣ d := by
  have n0 := List.length_pos_iff.mpr hw
  have dl := Nat.le_of_dvd n0 hv
  have lt := lb_lt hw
  have s := step_least hd dl h
  by_cases e : d = w.length
  · rw [e]
    exact rootN_dvd w
  · have two : d + d ≤ w.length := by
      obtain ⟨k, hk⟩ := hv
      have : k ≠ 0 := fun z => by subst z; omega
      have : k ≠ 1 := fun z => by subst z; omega
      have : d * 2 ≤ d * k := Nat.mul_le_mul_left d (by omega)
      omega
    have g := per_gcd (bor_per (lb_bor w)) h (by omega)
    have gp : 0 < Nat.gcd (w.length - lb w) d := Nat.gcd_pos_of_pos_right _ hd
    have g1 := step_least gp (Nat.le_trans (Nat.gcd_le_right _ hd) dl) g
    have g2 : Nat.gcd (w.length - lb w) d ∣ w.length - lb w := Nat.gcd_dvd_left _ _
    have g3 : Nat.gcd (w.length - lb w) d = w.length - lb w := Nat.le_antisymm (Nat.le_of_dvd (by omega) g2) g1
    have g4 : w.length - lb w ∣ d := by rw [← g3]; exact Nat.gcd_dvd_right _ _
    have : w.length % (w.length - lb w) = 0 := Nat.mod_eq_zero_of_dvd (Nat.dvd_trans g4 hv)
    unfold rootN
    rw [if_pos this]
    exact g4
theorem root_prim {w : W} (hw : w ≠ []) : Prim (w.take (rootN w)) := by
  have r0 := rootN_pos hw
  have rl := rootN_le hw
  have l : (w.take (rootN w)).length = rootN w := by rw [List.length_take]; omega
  refine ⟨fun z => by rw [z] at l; simp at l; omega, fun d hd hv h => ?_⟩
  rw [l] at hv ⊢
  -- a period of the root that divides it is one of the word
  have hw' : Per d w := fun i hi => by
    have mul : ∀ j, j < w.length → w[j]? = w[j % rootN w]? := fun j hj => by
      have := per_mul (rootN_per w) (j / rootN w) (j % rootN w) (by rw [Nat.mod_add_div]; exact hj)
      rw [Nat.mod_add_div] at this
      exact this.symm
    have inner : ∀ j, j < rootN w → w[j]? = w[j % d]? := fun j hj => by
      have := per_mul h (j / d) (j % d) (by rw [Nat.mod_add_div, l]; exact hj)
      rw [Nat.mod_add_div, List.getElem?_take_of_lt hj, List.getElem?_take_of_lt (by have := Nat.mod_le j d; omega)] at this
      exact this.symm
    rw [mul i (by omega), mul (i + d) hi, inner _ (Nat.mod_lt _ r0), inner ((i + d) % rootN w) (Nat.mod_lt _ r0)]
    congr 1
    rw [Nat.mod_mod_of_dvd _ hv, Nat.mod_mod_of_dvd _ hv, Nat.add_mod_right]
  exact Nat.dvd_antisymm hv (root_div hw hd (Nat.dvd_trans hv (rootN_dvd w)) hw')
theorem root_pw {w : W} (hw : w ≠ []) : w = pw (w.take (rootN w)) (w.length / rootN w) := per_pw (rootN_pos hw) (rootN_per w) (rootN_dvd w)
end WM

set_option linter.all false
set_option maxRecDepth 100000
namespace NM
open WM
/-! ### the last letters of a word taken without end; rotations -/
theorem mod_of {a b L x y : Nat} (h : a + L * x = b + L * y) : a % L = b % L := by
  rw [← Nat.add_mul_mod_self_left a L x, h, Nat.add_mul_mod_self_left]
def rotR (u : W) (k : Nat) : W := u.drop (u.length - k % u.length) ++ u.take (u.length - k % u.length)
def tailE (u : W) (k : Nat) : W := u.drop (u.length - k % u.length) ++ pw u (k / u.length)
theorem tailE_len {u : W} (h : u ≠ []) (k : Nat) : (tailE u k).length = k := by
  have n0 := List.length_pos_iff.mpr h
  have := Nat.mod_lt k n0
  have := Nat.mod_add_div k u.length
  unfold tailE
  rw [List.length_append, List.length_drop, pw_len]
  omega
theorem tailE_get {u : W} (h : u ≠ []) {k i : Nat} (hi : i < k) : (tailE u k)[i]? = u[(i + (u.length - k % u.length)) % u.length]? := by
  have n0 := List.length_pos_iff.mpr h
  have hm := Nat.mod_lt k n0
  have hd := Nat.mod_add_div k u.length
  unfold tailE
  by_cases z : i < k % u.length
  · rw [List.getElem?_append_left (by rw [List.length_drop]; omega), List.getElem?_drop, Nat.mod_eq_of_lt (show i + (u.length - k % u.length) < u.length by omega), Nat.add_comm]
  · rw [List.getElem?_append_right (by rw [List.length_drop]; omega), List.length_drop, pw_get h _ _ (by omega)]
    congr 1
    exact mod_of (x := 1) (y := 0) (by omega)
theorem tailE_drop {u : W} (h : u ≠ []) {n k : Nat} (hk : k ≤ n) : (tailE u n).drop (n - k) = tailE u k := by
  have n0 := List.length_pos_iff.mpr h
  refine List.ext_getElem? fun i => ?_
  by_cases hi : i < k
  · rw [List.getElem?_drop, tailE_get h (by omega), tailE_get h hi]
    congr 1
    have h1 := Nat.mod_add_div n u.length
    have h2 := Nat.mod_add_div k u.length
    have h3 := Nat.mod_lt n n0
    have h4 := Nat.mod_lt k n0
    exact mod_of (x := k / u.length) (y := n / u.length) (by omega)
  · rw [List.getElem?_eq_none (by rw [List.length_drop, tailE_len h]; omega), List.getElem?_eq_none (by rw [tailE_len h]; omega)]
theorem pw_comm (p s : W) : ∀ j, pw (s ++ p) j ++ s = s ++ pw (p ++ s) j
  | 0 => by simp [pw]
  | j + 1 => by
    rw [pw_succ, pw_succ, List.append_assoc, pw_comm p s j]
    simp [List.append_assoc]
theorem rotR_split (u : W) (k : Nat) : rotR u k = u.drop (u.length - k % u.length) ++ u.take (u.length - k % u.length) := rfl
theorem rotR_len (u : W) (k : Nat) : (rotR u k).length = u.length := by
  unfold rotR
  rw [List.length_append, List.length_drop, List.length_take]
  omega
/-- what is moved behind a power, and the power turned -/
theorem move_pw (u : W) (k j : Nat) : pw (rotR u k) j ++ tailE u k = tailE u k ++ pw u j := by
  have e : u.take (u.length - k % u.length) ++ u.drop (u.length - k % u.length) = u := List.take_append_drop _ _
  unfold tailE rotR
  rw [← List.append_assoc, pw_comm, e, List.append_assoc, ← pw_add, List.append_assoc, ← pw_add, Nat.add_comm]
theorem rotR_get {u : W} (h : u ≠ []) (k : Nat) {i : Nat} (hi : i < u.length) : (rotR u k)[i]? = u[(i + (u.length - k % u.length)) % u.length]? := by
  have n0 := List.length_pos_iff.mpr h
  have hm := Nat.mod_lt k n0
  unfold rotR
  by_cases z : i < k % u.length
  · rw [List.getElem?_append_left (by rw [List.length_drop]; omega), List.getElem?_drop, Nat.mod_eq_of_lt (show i + (u.length - k % u.length) < u.length by omega), Nat.add_comm]
  · rw [List.getElem?_append_right (by rw [List.length_drop]; omega), List.length_drop, List.getElem?_take_of_lt (by omega)]
    congr 1
    rw [show i - (u.length - (u.length - k % u.length)) = i - k % u.length by omega]
    have := mod_of (a := i + (u.length - k % u.length)) (b := i - k % u.length) (L := u.length) (x := 0) (y := 1) (by omega)
    rw [this, Nat.mod_eq_of_lt (show i - k % u.length < u.length by omega)]
theorem rotR_ne {u : W} (h : u ≠ []) (k : Nat) : rotR u k ≠ [] := fun z => by
  have := rotR_len u k
  rw [z] at this
  exact h (List.length_eq_zero_iff.mp this.symm)
theorem rotR_zero (u : W) : rotR u 0 = u := by
  unfold rotR
  simp
theorem last_get {w : W} (h : w ≠ []) : w.getLast? = w[w.length - 1]? := List.getLast?_eq_getElem? ..
/-- the last letter of the turned word is the letter ahead of what was moved -/
theorem rotR_last {u : W} (h : u ≠ []) {n k : Nat} (hk : k < n) : (rotR u k).getLast? = (tailE u n)[n - k - 1]? := by
  have n0 := List.length_pos_iff.mpr h
  rw [last_get (rotR_ne h k), rotR_len, rotR_get h k (by omega), tailE_get h (by omega)]
  congr 1
  have h1 := Nat.mod_add_div n u.length
  have h2 := Nat.mod_add_div k u.length
  have h3 := Nat.mod_lt n n0
  have h4 := Nat.mod_lt k n0
  exact mod_of (x := n / u.length) (y := k / u.length + 1) (by rw [Nat.mul_add]; omega)
theorem per_at {d : Nat} {w : W} (hd : 0 < d) (h : Per d w) {i : Nat} (hi : i < w.length) : w[i]? = w[i % d]? := by
  have := per_mul h (i / d) (i % d) (by rw [Nat.mod_add_div]; exact hi)
  rw [Nat.mod_add_div] at this
  exact this.symm
theorem prim_rotR {u : W} (h : Prim u) (k : Nat) : Prim (rotR u k) := by
  have ne := h.1
  have n0 := List.length_pos_iff.mpr ne
  refine ⟨rotR_ne ne k, fun d hd hv hp => ?_⟩
  rw [rotR_len] at hv ⊢
  refine h.2 d hd hv fun i hi => ?_
  -- letter i of u stands in the turned word at the place i + k
  have at_ : ∀ j, j < u.length → u[j]? = (rotR u k)[(j + k) % u.length]? := fun j hj => by
    rw [rotR_get ne k (Nat.mod_lt _ n0)]
    congr 1
    have h1 := Nat.mod_add_div (j + k) u.length
    have h2 := Nat.mod_add_div k u.length
    have h4 := Nat.mod_lt k n0
    have := mod_of (a := (j + k) % u.length + (u.length - k % u.length)) (b := j) (L := u.length) (x := (j + k) / u.length) (y := k / u.length + 1) (by rw [Nat.mul_add]; omega)
    rw [this, Nat.mod_eq_of_lt hj]
  have l := rotR_len u k
  rw [at_ i (by omega), at_ (i + d) hi, per_at hd hp (by rw [l]; exact Nat.mod_lt _ n0), per_at hd hp (i := (i + d + k) % u.length) (by rw [l]; exact Nat.mod_lt _ n0)]
  congr 1
  rw [Nat.mod_mod_of_dvd _ hv, Nat.mod_mod_of_dvd _ hv, show i + d + k = i + k + d by omega, Nat.add_mod_right]
/-! ### how many letters are moved -/
def movedE (ahead u : W) : Nat := lcp ahead.reverse (tailE u ahead.length).reverse
theorem movedE_le (ahead u : W) : movedE ahead u ≤ ahead.length := by
  have := (lcp_le ahead.reverse (tailE u ahead.length).reverse).1
  rw [List.length_reverse] at this
  exact this
theorem moved_drop {ahead u : W} (h : u ≠ []) : ahead.drop (ahead.length - movedE ahead u) = tailE u (movedE ahead u) := by
  have hle := movedE_le ahead u
  have e := lcp_take ahead.reverse (tailE u ahead.length).reverse _ (Nat.le_refl _)
  rw [List.take_reverse, List.take_reverse] at e
  have e2 := List.reverse_inj.mp e
  rw [tailE_len h] at e2
  rw [← tailE_drop h hle]
  exact e2
theorem lcp_next : ∀ (a b : W), lcp a b < a.length → lcp a b < b.length → a[lcp a b]? ≠ b[lcp a b]?
  | [], b, h, _ => by simp at h
  | _ :: _, [], _, h => by simp at h
  | x :: xs, y :: ys, h1, h2 => by
    unfold lcp at h1 h2 ⊢
    by_cases e : x = y
    · rw [if_pos e] at h1 h2 ⊢
      rw [List.getElem?_cons_succ, List.getElem?_cons_succ]
      exact lcp_next xs ys (by simpa using h1) (by simpa using h2)
    · rw [if_neg e]
      simp [e]
theorem moved_next {ahead u : W} (h : u ≠ []) (hk : movedE ahead u < ahead.length) : (ahead.take (ahead.length - movedE ahead u)).getLast? ≠ (rotR u (movedE ahead u)).getLast? := by
  rw [rotR_last h hk, List.getLast?_eq_getElem?, List.length_take, Nat.min_eq_left (by omega), List.getElem?_take_of_lt (by omega)]
  have := lcp_next ahead.reverse (tailE u ahead.length).reverse (by rw [List.length_reverse]; exact hk) (by rw [List.length_reverse, tailE_len h]; exact hk)
  rw [List.getElem?_reverse (by exact hk), List.getElem?_reverse (by rw [tailE_len h]; exact hk), tailE_len h] at this
  have e : ahead.length - movedE ahead u - 1 = ahead.length - 1 - movedE ahead u := by omega
  rw [e]
  exact this
theorem moved_zero {ahead u : W} (h : u ≠ []) (ha : ahead ≠ []) (hl : ahead.getLast? ≠ u.getLast?) : movedE ahead u = 0 := by
  have n0 := List.length_pos_iff.mpr ha
  have u0 := List.length_pos_iff.mpr h
  by_cases z : movedE ahead u = 0
  · exact z
  exfalso
  apply hl
  have e := moved_drop (ahead := ahead) h
  have hle := movedE_le ahead u
  rw [List.getLast?_eq_getElem?, List.getLast?_eq_getElem?]
  have h1 : (ahead.drop (ahead.length - movedE ahead u))[movedE ahead u - 1]? = (tailE u (movedE ahead u))[movedE ahead u - 1]? := by rw [e]
  rw [List.getElem?_drop, tailE_get h (by omega)] at h1
  rw [show ahead.length - 1 = ahead.length - movedE ahead u + (movedE ahead u - 1) by omega, h1]
  congr 1
  have h2 := Nat.mod_add_div (movedE ahead u) u.length
  have h4 := Nat.mod_lt (movedE ahead u) u0
  have := mod_of (a := movedE ahead u - 1 + (u.length - movedE ahead u % u.length)) (b := u.length - 1) (L := u.length) (x := 0) (y := movedE ahead u / u.length) (by omega)
  rw [this, Nat.mod_eq_of_lt (show u.length - 1 < u.length by omega)]
end NM

set_option linter.all false
set_option maxRecDepth 100000
/-! normal lists of pieces: the program's steps as functions, and what they keep -/
namespace NM
open WM
abbrev F := List Nat
abbrev Pn := W × F
def isOpen (f : F) : Bool := f.tail.any fun x => decide (x ≠ 0)
def isPow (p : Pn) : Bool := decide (p.2.headD 0 = 0)
def one1 (m : Nat) : F := 1 :: List.replicate m 0
def fixP (w : W) (m : Nat) : Pn := (w, one1 m)
def addF (f g : F) : F := List.zipWith (fun x y => x + y) f g
def timesF (k : Nat) (f : F) : F := f.map fun x => k * x
def joinF (acc : List Pn) (w : W) (m : Nat) : List Pn :=
  match acc.getLast? with
  | some q => if isPow q then (if w = [] then acc else acc ++ [fixP w m]) else (if q.1 ++ w = [] then acc.dropLast else acc.dropLast ++ [fixP (q.1 ++ w) m])
  | none => if w = [] then acc else acc ++ [fixP w m]
/-- a power, behind what is no fixed piece -/
def pushP (acc : List Pn) (u : W) (f : F) : List Pn :=
  match acc.getLast? with
  | some q => if isPow q ∧ q.1 = u then acc.dropLast ++ [(u, addF q.2 f)] else acc ++ [(u, f)]
  | none => acc ++ [(u, f)]
def putP (acc : List Pn) (u : W) (f : F) : List Pn :=
  match acc.getLast? with
  | some q => if isPow q then joinF (pushP acc u f) [] (f.length - 1)
    else joinF (pushP (joinF acc.dropLast (q.1.take (q.1.length - movedE q.1 u)) (f.length - 1)) (rotR u (movedE q.1 u)) f) (q.1.drop (q.1.length - movedE q.1 u)) (f.length - 1)
  | none => joinF (pushP acc u f) [] (f.length - 1)
def stepA (acc : List Pn) (p : Pn) : List Pn := if p.1 ≠ [] ∧ isOpen p.2 then putP acc (p.1.take (rootN p.1)) (timesF (p.1.length / rootN p.1) (0 :: p.2.tail)) else acc
def stepB (acc : List Pn) (p : Pn) : List Pn := if p.1 ≠ [] ∧ p.2.headD 0 ≠ 0 then joinF acc (pw p.1 (p.2.headD 0)) (p.2.length - 1) else acc
def stepN (acc : List Pn) (p : Pn) : List Pn := stepB (stepA acc p) p
def normL (ps : List Pn) : List Pn := ps.foldl stepN []

/-! ### what is written at a point -/
def dot : List Nat → List Nat → Nat
  | x :: xs, y :: ys => x * y + dot xs ys
  | _, _ => 0
def valF (f : F) (pt : List Nat) : Nat := f.headD 0 + dot f.tail pt
def wrt (pt : List Nat) (p : Pn) : W := pw p.1 (valF p.2 pt)
def wr (pt : List Nat) : List Pn → W
  | [] => []
  | p :: r => wrt pt p ++ wr pt r
theorem wr_app (pt : List Nat) : ∀ a b, wr pt (a ++ b) = wr pt a ++ wr pt b
  | [], b => rfl
  | p :: r, b => by rw [List.cons_append, wr, wr, wr_app pt r b, List.append_assoc]
theorem wr_one (pt : List Nat) (p : Pn) : wr pt [p] = wrt pt p := by rw [wr, wr, List.append_nil]
theorem dot_zero : ∀ (m : Nat) (pt : List Nat), dot (List.replicate m 0) pt = 0
  | 0, _ => by simp [dot]
  | m + 1, [] => by simp [dot, List.replicate_succ]
  | m + 1, y :: ys => by rw [List.replicate_succ, dot, dot_zero m ys]; simp
theorem val_one (m : Nat) (pt : List Nat) : valF (one1 m) pt = 1 := by
  unfold valF one1
  simp [dot_zero]
theorem pw_one (w : W) : pw w 1 = w := by rw [pw_succ, pw_zero, List.append_nil]
theorem wrt_fix (pt : List Nat) (w : W) (m : Nat) : wrt pt (fixP w m) = w := by
  unfold wrt fixP
  rw [val_one, pw_one]
theorem last_split {α : Type} {l : List α} {q : α} (h : l.getLast? = some q) : l = l.dropLast ++ [q] := by
  obtain ⟨ne, e⟩ := List.getLast?_eq_some_iff.mp h
  subst e
  simp
theorem dot_add : ∀ (f g pt : List Nat), f.length = g.length → dot (List.zipWith (fun x y => x + y) f g) pt = dot f pt + dot g pt
  | [], [], _, _ => by simp [dot]
  | _ :: _, [], _, h => by simp at h
  | [], _ :: _, _, h => by simp at h
  | x :: f, y :: g, [], _ => by simp [dot]
  | x :: f, y :: g, z :: pt, h => by
    rw [List.zipWith_cons_cons, dot, dot, dot, dot_add f g pt (by simpa using h), Nat.add_mul]
    omega
theorem val_add {f g : F} (pt : List Nat) (h : f.length = g.length) : valF (addF f g) pt = valF f pt + valF g pt := by
  cases f with
  | nil =>
    cases g with
    | nil => simp [valF, addF, dot]
    | cons _ _ => simp at h
  | cons x f =>
    cases g with
    | nil => simp at h
    | cons y g =>
      unfold valF addF
      rw [List.zipWith_cons_cons]
      simp only [List.headD_cons, List.tail_cons]
      rw [dot_add f g pt (by simpa using h)]
      omega
theorem dot_times (k : Nat) : ∀ (f pt : List Nat), dot (f.map fun x => k * x) pt = k * dot f pt
  | [], _ => by simp [dot]
  | x :: f, [] => by simp [dot]
  | x :: f, y :: pt => by rw [List.map_cons, dot, dot, dot_times k f pt, Nat.mul_add, Nat.mul_assoc]
theorem val_times (k : Nat) (f : F) (pt : List Nat) : valF (timesF k f) pt = k * valF f pt := by
  cases f with
  | nil => simp [valF, timesF, dot]
  | cons x f =>
    unfold valF timesF
    rw [List.map_cons]
    simp only [List.headD_cons, List.tail_cons]
    rw [dot_times, Nat.mul_add]
/-- forms as they stand in a list for m unknowns -/
def LenF (m : Nat) (ps : List Pn) : Prop := ∀ p ∈ ps, p.2.length = m + 1
/-- the fixed pieces have the form of one -/
def FixOk (m : Nat) (ps : List Pn) : Prop := ∀ p ∈ ps, isPow p = false → p.2 = one1 m
theorem isPow_fix (w : W) (m : Nat) : isPow (fixP w m) = false := rfl
theorem wr_joinF {acc : List Pn} {m : Nat} (h : FixOk m acc) (w : W) (pt : List Nat) : wr pt (joinF acc w m) = wr pt acc ++ w := by
  unfold joinF
  split
  · next q hq =>
    have e := last_split hq
    have mem : q ∈ acc := List.mem_of_getLast? hq
    split
    · split
      · next z => rw [z, List.append_nil]
      · rw [wr_app, wr_one, wrt_fix]
    · next np =>
      have f1 := h q mem (by simpa using np)
      have wq : wrt pt q = q.1 := by unfold wrt; rw [f1, val_one, pw_one]
      have ew : wr pt acc = wr pt acc.dropLast ++ q.1 := by
        conv => lhs; rw [e]
        rw [wr_app, wr_one, wq]
      split
      · next z =>
        rw [ew]
        have z1 := (List.append_eq_nil_iff.mp z).1
        have z2 := (List.append_eq_nil_iff.mp z).2
        rw [z1, z2, List.append_nil, List.append_nil]
      · rw [wr_app, wr_one, wrt_fix, ew, List.append_assoc]
  · split
    · next z => rw [z, List.append_nil]
    · rw [wr_app, wr_one, wrt_fix]
theorem wr_pushP {acc : List Pn} {m : Nat} (h : LenF m acc) {u : W} {f : F} (hf : f.length = m + 1) (pt : List Nat) : wr pt (pushP acc u f) = wr pt acc ++ wrt pt (u, f) := by
  unfold pushP
  split
  · next q hq =>
    have e := last_split hq
    have mem : q ∈ acc := List.mem_of_getLast? hq
    split
    · next z =>
      have ew : wr pt acc = wr pt acc.dropLast ++ wrt pt q := by
        conv => lhs; rw [e]
        rw [wr_app, wr_one]
      rw [wr_app, wr_one, ew, List.append_assoc]
      congr 1
      show pw u (valF (addF q.2 f) pt) = pw q.1 (valF q.2 pt) ++ pw u (valF f pt)
      rw [val_add pt (by rw [h q mem, hf]), pw_add, z.2]
    · rw [wr_app, wr_one]
  · rw [wr_app, wr_one]

/-! ### the fold's facts -/
theorem get_dropLast {α : Type} {l : List α} {i : Nat} {x : α} (h : l.dropLast[i]? = some x) : l[i]? = some x := by
  rw [List.getElem?_dropLast] at h
  split at h
  · exact h
  · cases h
theorem mem_dropLast {α : Type} {l : List α} {x : α} (h : x ∈ l.dropLast) : x ∈ l := List.dropLast_subset _ h
structure NormP (m : Nat) (p : Pn) : Prop where
  ne : p.1 ≠ []
  len : p.2.length = m + 1
  fix : isPow p = false → p.2 = one1 m
  pow : isPow p = true → Prim p.1 ∧ isOpen p.2 = true
structure Adj (p q : Pn) : Prop where
  fix : isPow p = false → isPow q = true ∧ p.1.getLast? ≠ q.1.getLast?
  pow : isPow p = true → isPow q = true → p.1 ≠ q.1
structure Nm (m : Nat) (ps : List Pn) : Prop where
  all : ∀ p ∈ ps, NormP m p
  adj : ∀ i p q, ps[i]? = some p → ps[i + 1]? = some q → Adj p q
theorem Nm.nil {m : Nat} : Nm m [] := ⟨fun p h => absurd h List.not_mem_nil, fun i p q h => by simp at h⟩
theorem Nm.init {m : Nat} {l : List Pn} (h : Nm m l) : Nm m l.dropLast :=
  ⟨fun p hp => h.all p (mem_dropLast hp), fun i p q hp hq => h.adj i p q (get_dropLast hp) (get_dropLast hq)⟩
theorem Nm.snoc {m : Nat} {l : List Pn} {p : Pn} (h : Nm m l) (hp : NormP m p) (ha : ∀ q, l.getLast? = some q → Adj q p) : Nm m (l ++ [p]) := by
  refine ⟨fun q hq => ?_, fun i a b hi hj => ?_⟩
  · rcases List.mem_append.mp hq with z | z
    · exact h.all q z
    · rw [List.mem_singleton.mp z]
      exact hp
  · by_cases z : i + 1 < l.length
    · rw [List.getElem?_append_left (by omega)] at hi
      rw [List.getElem?_append_left z] at hj
      exact h.adj i a b hi hj
    · by_cases y : i + 1 = l.length
      · rw [List.getElem?_append_left (by omega)] at hi
        rw [List.getElem?_append_right (by omega), y, Nat.sub_self] at hj
        cases hj
        refine ha a ?_
        rw [List.getLast?_eq_getElem?, ← hi]
        congr 1
        omega
      · rw [List.getElem?_append_right (by omega), List.getElem?_eq_none (by simp; omega)] at hj
        cases hj
/-- the piece ahead of the last one -/
theorem Nm.pre {m : Nat} {l : List Pn} {p q : Pn} (h : Nm m l) (hp : l.getLast? = some p) (hq : l.dropLast.getLast? = some q) : Adj q p := by
  rw [List.getLast?_eq_getElem?] at hp hq
  have hq' := get_dropLast hq
  rw [List.length_dropLast] at hq'
  have hl := (List.getElem?_eq_some_iff.mp hq).1
  rw [List.length_dropLast] at hl
  refine h.adj (l.length - 1 - 1) q p hq' ?_
  rw [← hp]
  congr 1
  omega
theorem fixP_norm {m : Nat} {w : W} (h : w ≠ []) : NormP m (fixP w m) := ⟨h, by simp [fixP, one1], fun _ => rfl, fun z => by cases z⟩
/-- a fixed word behind a normal list -/
theorem nm_joinF {m : Nat} {acc : List Pn} (h : Nm m acc) (w : W) : Nm m (joinF acc w m) := by
  unfold joinF
  split
  · next q hq =>
    split
    · next pq =>
      split
      · exact h
      · next ne =>
        refine h.snoc (fixP_norm ne) fun q' hq' => ?_
        rw [hq] at hq'
        cases hq'
        exact ⟨fun z => (by rw [pq] at z; cases z), fun _ z => (by cases z)⟩
    · next pq =>
      split
      · exact h.init
      · next ne =>
        refine h.init.snoc (fixP_norm ne) fun q' hq' => ?_
        have a := h.pre hq hq'
        have pq' : isPow q = false := by simpa using pq
        exact ⟨fun z => (by have := (a.fix z).1; rw [pq'] at this; cases this), fun _ z => (by cases z)⟩
  · next hn =>
    split
    · exact h
    · next ne =>
      refine h.snoc (fixP_norm ne) fun q' hq' => ?_
      rw [hn] at hq'
      cases hq'
theorem isOpen_iff {f : F} : isOpen f = true ↔ ∃ x ∈ f.tail, x ≠ 0 := by
  unfold isOpen
  rw [List.any_eq_true]
  constructor
  · rintro ⟨x, hx, h⟩
    exact ⟨x, hx, by simpa using h⟩
  · rintro ⟨x, hx, h⟩
    exact ⟨x, hx, by simpa using h⟩
theorem open_add {f g : F} (hl : f.length = g.length) (h : isOpen g = true) : isOpen (addF f g) = true := by
  obtain ⟨x, hx, h0⟩ := isOpen_iff.mp h
  refine isOpen_iff.mpr ?_
  cases f with
  | nil =>
    cases g with
    | nil => cases hx
    | cons _ _ => simp at hl
  | cons a f =>
    cases g with
    | nil => simp at hl
    | cons b g =>
      obtain ⟨i, hi⟩ := List.getElem?_of_mem (show x ∈ g from hx)
      have hi2 := (List.getElem?_eq_some_iff.mp hi).1
      have hf : i < f.length := by simp at hl; omega
      refine ⟨f[i] + x, ?_, by omega⟩
      refine List.mem_of_getElem? (i := i) ?_
      show (List.zipWith (fun x y => x + y) f g)[i]? = _
      rw [List.getElem?_zipWith, List.getElem?_eq_getElem hf, hi]
theorem len_add {f g : F} (hl : f.length = g.length) : (addF f g).length = g.length := by
  unfold addF
  rw [List.length_zipWith]
  omega
theorem head_add {f g : F} (hl : f.length = g.length) (h1 : f.headD 0 = 0) (h2 : g.headD 0 = 0) : (addF f g).headD 0 = 0 := by
  cases f with
  | nil => simp [addF]
  | cons a f =>
    cases g with
    | nil => simp at hl
    | cons b g =>
      simp only [List.headD_cons] at h1 h2
      show a + b = 0
      omega
theorem pow_norm {m : Nat} {u : W} {f : F} (hu : Prim u) (hl : f.length = m + 1) (h0 : f.headD 0 = 0) (ho : isOpen f = true) : NormP m (u, f) ∧ isPow (u, f) = true := by
  have e : isPow (u, f) = true := decide_eq_true h0
  exact ⟨⟨hu.1, hl, fun z => (by rw [e] at z; cases z), fun _ => ⟨hu, ho⟩⟩, e⟩
/-- a power behind what does not end with its last letter -/
theorem nm_pushP {m : Nat} {acc : List Pn} (h : Nm m acc) {u : W} {f : F} (hu : Prim u) (hl : f.length = m + 1) (h0 : f.headD 0 = 0) (ho : isOpen f = true)
    (hx : ∀ q, acc.getLast? = some q → isPow q = false → q.1.getLast? ≠ u.getLast?) : Nm m (pushP acc u f) ∧ ∃ g, (pushP acc u f).getLast? = some (u, g) ∧ isPow (u, g) = true := by
  obtain ⟨np, pp⟩ := pow_norm hu hl h0 ho
  unfold pushP
  split
  · next q hq =>
    have mq := h.all q (List.mem_of_getLast? hq)
    split
    · next z =>
      obtain ⟨z1, z2⟩ := z
      have lq : q.2.length = f.length := by rw [mq.len, hl]
      have hq0 : q.2.headD 0 = 0 := of_decide_eq_true z1
      obtain ⟨np2, pp2⟩ := pow_norm (m := m) (f := addF q.2 f) hu (by rw [len_add lq, hl]) (head_add lq hq0 h0) (open_add lq ho)
      refine ⟨h.init.snoc np2 fun q' hq' => ?_, _, by simp, pp2⟩
      have a := h.pre hq hq'
      exact ⟨fun y => ⟨pp2, by have := (a.fix y).2; rw [z2] at this; exact this⟩, fun y _ => by have := a.pow y z1; rw [z2] at this; exact this⟩
    · next z =>
      refine ⟨h.snoc np fun q' hq' => ?_, _, by simp, pp⟩
      rw [hq] at hq'
      cases hq'
      exact ⟨fun y => ⟨pp, hx q hq y⟩, fun y _ e => z ⟨y, e⟩⟩
  · next hn =>
    refine ⟨h.snoc np fun q' hq' => ?_, _, by simp, pp⟩
    rw [hn] at hq'
    cases hq'
theorem joinF_nil {acc : List Pn} {q : Pn} {m : Nat} (h : acc.getLast? = some q) (hp : isPow q = true) : joinF acc [] m = acc := by
  unfold joinF
  rw [h]
  simp [hp]
theorem nm_putP {m : Nat} {acc : List Pn} (h : Nm m acc) {u : W} {f : F} (hu : Prim u) (hl : f.length = m + 1) (h0 : f.headD 0 = 0) (ho : isOpen f = true) : Nm m (putP acc u f) := by
  have em : f.length - 1 = m := by omega
  unfold putP
  rw [em]
  split
  · next q hq =>
    split
    · next pq =>
      exact nm_joinF (nm_pushP h hu hl h0 ho fun q' hq' z => by rw [hq] at hq'; cases hq'; rw [pq] at z; cases z).1 _
    · next pq =>
      have pq' : isPow q = false := by simpa using pq
      refine nm_joinF (nm_pushP (nm_joinF h.init _) (prim_rotR hu _) hl h0 ho fun q' hq' z => ?_).1 _
      by_cases e : q.1.take (q.1.length - movedE q.1 u) = []
      · -- nothing is left of the fixed piece: what is ahead is a power
        exfalso
        rw [e] at hq'
        have : joinF acc.dropLast [] m = acc.dropLast := by
          cases hd : acc.dropLast.getLast? with
          | none =>
            unfold joinF
            rw [hd]
            simp
          | some r =>
            have a := h.pre hq hd
            have pr : isPow r = true := by
              cases y : isPow r with
              | true => rfl
              | false =>
                have := (a.fix y).1
                rw [pq'] at this
                cases this
            exact joinF_nil hd pr
        rw [this] at hq'
        have a := h.pre hq hq'
        have := (a.fix z).1
        rw [pq'] at this
        cases this
      · have lt : movedE q.1 u < q.1.length := by
          have := List.length_pos_iff.mpr e
          rw [List.length_take] at this
          omega
        have eq : joinF acc.dropLast (q.1.take (q.1.length - movedE q.1 u)) m = acc.dropLast ++ [fixP (q.1.take (q.1.length - movedE q.1 u)) m] := by
          unfold joinF
          split
          · next r hr =>
            have a := h.pre hq hr
            have pr : isPow r = true := by
              cases y : isPow r with
              | true => rfl
              | false =>
                have := (a.fix y).1
                rw [pq'] at this
                cases this
            rw [if_pos pr, if_neg e]
          · rw [if_neg e]
        rw [eq] at hq'
        rw [List.getLast?_append] at hq'
        cases hq'
        exact moved_next hu.1 lt
  · next hn =>
    exact nm_joinF (nm_pushP h hu hl h0 ho fun q' hq' => by rw [hn] at hq'; cases hq').1 _
theorem open_times {k : Nat} (hk : 0 < k) {f : F} (h : isOpen f = true) : isOpen (timesF k (0 :: f.tail)) = true := by
  obtain ⟨x, hx, h0⟩ := isOpen_iff.mp h
  refine isOpen_iff.mpr ⟨k * x, List.mem_map.mpr ⟨x, hx, rfl⟩, ?_⟩
  have := Nat.mul_pos hk (Nat.pos_of_ne_zero h0)
  omega
theorem root_times {w : W} (h : w ≠ []) : 0 < w.length / rootN w := Nat.div_pos (rootN_le h) (rootN_pos h)
theorem nm_stepA {m : Nat} {acc : List Pn} (h : Nm m acc) {p : Pn} (hl : p.2.length = m + 1) : Nm m (stepA acc p) := by
  unfold stepA
  split
  · next z =>
    refine nm_putP h (root_prim z.1) ?_ ?_ (open_times (root_times z.1) z.2)
    · unfold timesF
      simp [hl]
    · simp [timesF]
  · exact h
theorem nm_stepB {m : Nat} {acc : List Pn} (h : Nm m acc) {p : Pn} (hl : p.2.length = m + 1) : Nm m (stepB acc p) := by
  unfold stepB
  split
  · have e : p.2.length - 1 = m := by omega
    rw [e]
    exact nm_joinF h _
  · exact h
theorem nm_fold {m : Nat} : ∀ (ps acc : List Pn), Nm m acc → LenF m ps → Nm m (ps.foldl stepN acc)
  | [], _, h, _ => h
  | p :: r, acc, h, hl => nm_fold r _ (nm_stepB (nm_stepA h (hl p List.mem_cons_self)) (hl p List.mem_cons_self)) fun q hq => hl q (List.mem_cons_of_mem _ hq)
theorem nm_normL {m : Nat} {ps : List Pn} (h : LenF m ps) : Nm m (normL ps) := nm_fold ps [] .nil h
theorem Nm.lenF {m : Nat} {ps : List Pn} (h : Nm m ps) : LenF m ps := fun p hp => (h.all p hp).len
theorem Nm.fixOk {m : Nat} {ps : List Pn} (h : Nm m ps) : FixOk m ps := fun p hp => (h.all p hp).fix
/-! ### what is written stays -/
theorem wr_putP {m : Nat} {acc : List Pn} (h : Nm m acc) {u : W} {f : F} (hu : Prim u) (hl : f.length = m + 1) (h0 : f.headD 0 = 0) (ho : isOpen f = true) (pt : List Nat) : wr pt (putP acc u f) = wr pt acc ++ wrt pt (u, f) := by
  have em : f.length - 1 = m := by omega
  have one : ∀ {acc : List Pn}, Nm m acc → (∀ q, acc.getLast? = some q → isPow q = true) → wr pt (joinF (pushP acc u f) [] m) = wr pt acc ++ wrt pt (u, f) := fun {acc} h hp => by
    obtain ⟨n, g, hg, pg⟩ := nm_pushP h hu hl h0 ho fun q' hq' z => by rw [hp q' hq'] at z; cases z
    rw [joinF_nil hg pg, wr_pushP h.lenF hl]
  unfold putP
  rw [em]
  split
  · next q hq =>
    split
    · next pq => exact one h fun q' hq' => by rw [hq] at hq'; cases hq'; exact pq
    · next pq =>
      have pq' : isPow q = false := by simpa using pq
      have e := last_split hq
      have mq := h.all q (List.mem_of_getLast? hq)
      have wq : wrt pt q = q.1 := by unfold wrt; rw [mq.fix pq', val_one, pw_one]
      have n1 := nm_joinF h.init (q.1.take (q.1.length - movedE q.1 u)) (m := m)
      have n2 : Nm m (putP acc u f) := nm_putP h hu hl h0 ho
      have l2 : FixOk m (pushP (joinF acc.dropLast (q.1.take (q.1.length - movedE q.1 u)) m) (rotR u (movedE q.1 u)) f) := by
        intro p hp z
        unfold pushP at hp
        have pr : isPow (rotR u (movedE q.1 u), f) = true := decide_eq_true h0
        split at hp
        · next r hr =>
          split at hp
          · next y =>
            rcases List.mem_append.mp hp with x | x
            · exact n1.fixOk p (mem_dropLast x) z
            · rw [List.mem_singleton.mp x] at z
              have : isPow (rotR u (movedE q.1 u), addF r.2 f) = true := decide_eq_true (head_add (by rw [n1.lenF r (List.mem_of_getLast? hr), hl]) (of_decide_eq_true y.1) h0)
              rw [this] at z
              cases z
          · rcases List.mem_append.mp hp with x | x
            · exact n1.fixOk p x z
            · rw [List.mem_singleton.mp x, pr] at z
              cases z
        · rcases List.mem_append.mp hp with x | x
          · exact n1.fixOk p x z
          · rw [List.mem_singleton.mp x, pr] at z
            cases z
      rw [wr_joinF l2, wr_pushP n1.lenF hl, wr_joinF h.init.fixOk]
      have ew : wr pt acc = wr pt acc.dropLast ++ q.1 := by
        conv => lhs; rw [e]
        rw [wr_app, wr_one, wq]
      rw [ew, moved_drop hu.1]
      have mv := move_pw u (movedE q.1 u) (valF f pt)
      rw [List.append_assoc, List.append_assoc, List.append_assoc]
      congr 1
      show q.1.take _ ++ (pw (rotR u (movedE q.1 u)) (valF f pt) ++ tailE u (movedE q.1 u)) = q.1 ++ pw u (valF f pt)
      rw [mv, ← moved_drop hu.1, ← List.append_assoc, List.take_append_drop]
  · next hn => exact one h fun q' hq' => by rw [hn] at hq'; cases hq'
theorem pw_mul (w : W) (a : Nat) : ∀ b, pw (pw w a) b = pw w (a * b)
  | 0 => by simp [pw]
  | b + 1 => by rw [pw_succ, pw_mul w a b, ← pw_add, Nat.mul_succ, Nat.add_comm]
theorem pw_nil (n : Nat) : pw [] n = [] := List.length_eq_zero_iff.mp (by rw [pw_len]; simp)
theorem val_split (f : F) (pt : List Nat) : valF f pt = valF (0 :: f.tail) pt + f.headD 0 := by
  unfold valF
  simp
  omega
theorem dot_closed : ∀ {f : List Nat}, (∀ x ∈ f, x = 0) → ∀ pt : List Nat, dot f pt = 0
  | [], _, _ => by simp [dot]
  | x :: f, h, [] => by simp [dot]
  | x :: f, h, y :: pt => by
    rw [dot, dot_closed (fun z hz => h z (List.mem_cons_of_mem _ hz)) pt, h x List.mem_cons_self]
    simp
theorem wr_stepN {m : Nat} {acc : List Pn} (h : Nm m acc) {p : Pn} (hl : p.2.length = m + 1) (pt : List Nat) : wr pt (stepN acc p) = wr pt acc ++ wrt pt p := by
  have hA := nm_stepA h hl
  have wA : wr pt (stepA acc p) = wr pt acc ++ pw p.1 (valF (0 :: p.2.tail) pt) := by
    unfold stepA
    split
    · next z =>
      have lt : (timesF (p.1.length / rootN p.1) (0 :: p.2.tail)).length = m + 1 := by unfold timesF; simp [hl]
      rw [wr_putP h (root_prim z.1) lt (by simp [timesF]) (open_times (root_times z.1) z.2)]
      congr 1
      show pw (p.1.take (rootN p.1)) (valF (timesF _ _) pt) = _
      rw [val_times, ← pw_mul, ← root_pw z.1]
    · next z =>
      by_cases ne : p.1 = []
      · rw [ne, pw_nil, List.append_nil]
      · have hc : ∀ x ∈ p.2.tail, x = 0 := fun x hx => Classical.byContradiction fun y => z ⟨ne, isOpen_iff.mpr ⟨x, hx, y⟩⟩
        rw [show valF (0 :: p.2.tail) pt = 0 by unfold valF; simp [dot_closed hc], pw_zero, List.append_nil]
  have wB : wr pt (stepB (stepA acc p) p) = wr pt (stepA acc p) ++ pw p.1 (p.2.headD 0) := by
    unfold stepB
    split
    · have e : p.2.length - 1 = m := by omega
      rw [e, wr_joinF hA.fixOk]
    · next z =>
      by_cases ne : p.1 = []
      · rw [ne, pw_nil, List.append_nil]
      · have : p.2.headD 0 = 0 := Classical.byContradiction fun y => z ⟨ne, y⟩
        rw [this, pw_zero, List.append_nil]
  unfold stepN
  rw [wB, wA, List.append_assoc, ← pw_add, ← val_split]
  rfl
theorem wr_fold {m : Nat} (pt : List Nat) : ∀ (ps acc : List Pn), Nm m acc → LenF m ps → wr pt (ps.foldl stepN acc) = wr pt acc ++ wr pt ps
  | [], acc, _, _ => by simp [wr]
  | p :: r, acc, h, hl => by
    have lp := hl p List.mem_cons_self
    rw [List.foldl_cons, show stepN acc p = stepB (stepA acc p) p from rfl, wr_fold pt r _ (nm_stepB (nm_stepA h lp) lp) (fun q hq => hl q (List.mem_cons_of_mem _ hq)), show stepB (stepA acc p) p = stepN acc p from rfl, wr_stepN h lp, List.append_assoc]
    rfl
/-- the normal list writes the same -/
theorem wr_normL {m : Nat} {ps : List Pn} (h : LenF m ps) (pt : List Nat) : wr pt (normL ps) = wr pt ps := wr_fold pt ps [] .nil h
end NM

set_option linter.all false
set_option maxRecDepth 100000
namespace NM
open WM
/-! ### the measure -/
def measP (p : Pn) : Nat := p.1.length * (p.2.headD 0 + (if isOpen p.2 then 1 else 0))
def meas (ps : List Pn) : Nat := (ps.map measP).sum
theorem meas_app (a b : List Pn) : meas (a ++ b) = meas a + meas b := by unfold meas; rw [List.map_append, List.sum_append]
theorem meas_one (p : Pn) : meas [p] = measP p := by simp [meas]
theorem open_one (m : Nat) : isOpen (one1 m) = false := by
  unfold isOpen one1
  rw [List.any_eq_false]
  intro x hx
  have := List.eq_of_mem_replicate (show x ∈ List.replicate m 0 from hx)
  simp [this]
theorem measP_fix (w : W) (m : Nat) : measP (fixP w m) = w.length := by
  unfold measP fixP
  simp only [open_one]
  simp [one1]
theorem meas_last {l : List Pn} {q : Pn} (h : l.getLast? = some q) : meas l = meas l.dropLast + measP q := by
  conv => lhs; rw [last_split h]
  rw [meas_app, meas_one]
theorem meas_joinF {m : Nat} {acc : List Pn} (h : FixOk m acc) (w : W) : meas (joinF acc w m) = meas acc + w.length := by
  unfold joinF
  split
  · next q hq =>
    split
    · split
      · next z => rw [z]; rfl
      · rw [meas_app, meas_one, measP_fix]
    · next np =>
      have f1 := h q (List.mem_of_getLast? hq) (by simpa using np)
      have mq : measP q = q.1.length := by
        have : q = fixP q.1 m := by unfold fixP; rw [← f1]
        conv => lhs; rw [this]
        rw [measP_fix]
      have ml := meas_last hq
      split
      · next z =>
        have z1 := congrArg List.length z
        rw [List.length_append, List.length_nil] at z1
        omega
      · rw [meas_app, meas_one, measP_fix, List.length_append]
        omega
  · split
    · next z => rw [z]; rfl
    · rw [meas_app, meas_one, measP_fix]
theorem measP_pow {u : W} {f : F} (h0 : f.headD 0 = 0) : measP (u, f) ≤ u.length := by
  unfold measP
  simp only [h0, Nat.zero_add]
  split
  · rw [Nat.mul_one]
    exact Nat.le_refl _
  · rw [Nat.mul_zero]
    exact Nat.zero_le _
theorem meas_pushP {acc : List Pn} {u : W} {f : F} (h0 : f.headD 0 = 0) (hx : ∀ q, acc.getLast? = some q → isPow q = true → q.1 = u → (addF q.2 f).headD 0 = 0 ∧ u.length ≤ measP q) : meas (pushP acc u f) ≤ meas acc + u.length := by
  unfold pushP
  split
  · next q hq =>
    have ml := meas_last hq
    split
    · next z =>
      obtain ⟨a, b⟩ := hx q hq z.1 z.2
      have := measP_pow (u := u) a
      rw [meas_app, meas_one]
      omega
    · have := measP_pow (u := u) h0
      rw [meas_app, meas_one]
      omega
  · have := measP_pow (u := u) h0
    rw [meas_app, meas_one]
    omega
theorem measP_le {m : Nat} {q : Pn} (h : NormP m q) : q.1.length ≤ measP q := by
  unfold measP
  cases e : isPow q with
  | false =>
    rw [h.fix e]
    simp [one1]
    exact Nat.le_mul_of_pos_right _ (by omega)
  | true =>
    rw [if_pos (h.pow e).2]
    exact Nat.le_mul_of_pos_right _ (by omega)
theorem meas_pushN {m : Nat} {acc : List Pn} (h : Nm m acc) {u : W} {f : F} (hl : f.length = m + 1) (h0 : f.headD 0 = 0) : meas (pushP acc u f) ≤ meas acc + u.length :=
  meas_pushP h0 fun q hq pq e => by
    have nq := h.all q (List.mem_of_getLast? hq)
    refine ⟨head_add (by rw [nq.len, hl]) (of_decide_eq_true pq) h0, ?_⟩
    rw [← e]
    exact measP_le nq
theorem fix_pushP {m : Nat} {acc : List Pn} (h : Nm m acc) {u : W} {f : F} (hl : f.length = m + 1) (h0 : f.headD 0 = 0) : FixOk m (pushP acc u f) := by
  intro p hp z
  unfold pushP at hp
  have pr : isPow (u, f) = true := decide_eq_true h0
  split at hp
  · next r hr =>
    split at hp
    · next y =>
      rcases List.mem_append.mp hp with x | x
      · exact h.fixOk p (mem_dropLast x) z
      · rw [List.mem_singleton.mp x] at z
        have : isPow (u, addF r.2 f) = true := decide_eq_true (head_add (by rw [h.lenF r (List.mem_of_getLast? hr), hl]) (of_decide_eq_true y.1) h0)
        rw [this] at z
        cases z
    · rcases List.mem_append.mp hp with x | x
      · exact h.fixOk p x z
      · rw [List.mem_singleton.mp x, pr] at z
        cases z
  · rcases List.mem_append.mp hp with x | x
    · exact h.fixOk p x z
    · rw [List.mem_singleton.mp x, pr] at z
      cases z
theorem meas_putP {m : Nat} {acc : List Pn} (h : Nm m acc) {u : W} {f : F} (hl : f.length = m + 1) (h0 : f.headD 0 = 0) : meas (putP acc u f) ≤ meas acc + u.length := by
  have em : f.length - 1 = m := by omega
  have one : ∀ {acc : List Pn}, Nm m acc → meas (joinF (pushP acc u f) [] m) ≤ meas acc + u.length := fun {acc} h => by
    rw [meas_joinF (fix_pushP h hl h0)]
    exact meas_pushN h hl h0
  unfold putP
  rw [em]
  split
  · next q hq =>
    split
    · exact one h
    · next pq =>
      have pq' : isPow q = false := by simpa using pq
      have mq := h.all q (List.mem_of_getLast? hq)
      have e : measP q = q.1.length := by
        have : q = fixP q.1 m := by unfold fixP; rw [← mq.fix pq']
        conv => lhs; rw [this]
        rw [measP_fix]
      have ml := meas_last hq
      have n1 := nm_joinF h.init (q.1.take (q.1.length - movedE q.1 u)) (m := m)
      rw [meas_joinF (fix_pushP n1 hl h0)]
      have a := meas_pushN n1 (u := rotR u (movedE q.1 u)) hl h0
      rw [meas_joinF h.init.fixOk, List.length_take, rotR_len] at a
      rw [List.length_drop]
      have := movedE_le q.1 u
      omega
  · exact one h
theorem meas_stepN {m : Nat} {acc : List Pn} (h : Nm m acc) {p : Pn} (hl : p.2.length = m + 1) : meas (stepN acc p) ≤ meas acc + measP p := by
  have hA := nm_stepA h hl
  have a : meas (stepA acc p) ≤ meas acc + p.1.length * (if isOpen p.2 then 1 else 0) := by
    unfold stepA
    split
    · next z =>
      have lt : (timesF (p.1.length / rootN p.1) (0 :: p.2.tail)).length = m + 1 := by unfold timesF; simp [hl]
      have := meas_putP h (u := p.1.take (rootN p.1)) lt (by simp [timesF])
      rw [if_pos z.2]
      rw [List.length_take] at this
      omega
    · omega
  have b : meas (stepB (stepA acc p) p) ≤ meas (stepA acc p) + p.1.length * p.2.headD 0 := by
    unfold stepB
    split
    · have e : p.2.length - 1 = m := by omega
      rw [e, meas_joinF hA.fixOk, pw_len]
      exact Nat.le_refl _
    · omega
  unfold stepN measP
  rw [Nat.mul_add]
  omega
theorem meas_fold {m : Nat} : ∀ (ps acc : List Pn), Nm m acc → LenF m ps → meas (ps.foldl stepN acc) ≤ meas acc + meas ps
  | [], acc, _, _ => by simp [meas]
  | p :: r, acc, h, hl => by
    have lp := hl p List.mem_cons_self
    have a := meas_stepN h lp
    have b := meas_fold r (stepN acc p) (nm_stepB (nm_stepA h lp) lp) fun q hq => hl q (List.mem_cons_of_mem _ hq)
    rw [List.foldl_cons]
    have : meas (p :: r) = measP p + meas r := by simp [meas]
    omega
theorem meas_normL {m : Nat} {ps : List Pn} (h : LenF m ps) : meas (normL ps) ≤ meas ps := by
  have := meas_fold ps [] (Nm.nil (m := m)) h
  unfold normL
  have e : meas [] = 0 := rfl
  omega
/-! ### a normal list stays -/
theorem joinF_app {m : Nat} {acc : List Pn} {w : W} (hw : w ≠ []) (h : ∀ q, acc.getLast? = some q → isPow q = true) : joinF acc w m = acc ++ [fixP w m] := by
  unfold joinF
  split
  · next q hq => rw [if_pos (h q hq), if_neg hw]
  · rw [if_neg hw]
theorem pushP_app {acc : List Pn} {u : W} {f : F} (h : ∀ q, acc.getLast? = some q → ¬ (isPow q = true ∧ q.1 = u)) : pushP acc u f = acc ++ [(u, f)] := by
  unfold pushP
  split
  · next q hq => rw [if_neg (h q hq)]
  · rfl
theorem prim_root {w : W} (h : Prim w) : rootN w = w.length := h.2 _ (rootN_pos h.1) (rootN_dvd w) (rootN_per w)
theorem times_one {f : F} (h : f.headD 0 = 0) (hl : 0 < f.length) : timesF 1 (0 :: f.tail) = f := by
  cases f with
  | nil => simp at hl
  | cons a f =>
    simp only [List.headD_cons] at h
    subst h
    simp [timesF]
theorem step_fix {m : Nat} {l : List Pn} {p : Pn} (h : Nm m l) (hp : NormP m p) (ha : ∀ q, l.getLast? = some q → Adj q p) : stepN l p = l ++ [p] := by
  cases e : isPow p with
  | false =>
    have f1 := hp.fix e
    have ep : fixP p.1 m = p := by unfold fixP; rw [← f1]
    have no : isOpen p.2 = false := by rw [f1, open_one]
    have h1 : p.2.headD 0 = 1 := by rw [f1]; rfl
    have eA : stepA l p = l := by
      unfold stepA
      rw [if_neg fun z => by rw [no] at z; exact Bool.false_ne_true z.2]
    unfold stepN
    rw [eA]
    unfold stepB
    rw [if_pos ⟨hp.ne, by rw [h1]; decide⟩, h1, pw_one, show p.2.length - 1 = m by rw [hp.len]; rfl, joinF_app hp.ne fun q hq => ?_, ep]
    cases y : isPow q with
    | true => rfl
    | false =>
      have := ((ha q hq).fix y).1
      rw [e] at this
      cases this
  | true =>
    obtain ⟨pr, op⟩ := hp.pow e
    have h0 : p.2.headD 0 = 0 := of_decide_eq_true e
    have n0 := List.length_pos_iff.mpr hp.ne
    have eA : stepA l p = putP l p.1 p.2 := by
      unfold stepA
      rw [if_pos ⟨hp.ne, op⟩, prim_root pr, List.take_length, Nat.div_self n0, times_one h0 (by rw [hp.len]; omega)]
    have eB : ∀ acc, stepB acc p = acc := fun acc => by
      unfold stepB
      rw [if_neg fun z => z.2 h0]
    have last : ∀ l : List Pn, (l ++ [p]).getLast? = some p := fun l => by simp
    unfold stepN
    rw [eB, eA]
    unfold putP
    rw [show p.2.length - 1 = m by rw [hp.len]; rfl]
    split
    · next q hq =>
      have a := ha q hq
      split
      · next pq =>
        rw [pushP_app fun q' hq' => by rw [hq] at hq'; cases hq'; exact fun z => a.pow pq e z.2]
        exact joinF_nil (last l) e
      · next pq =>
        have pq' : isPow q = false := by simpa using pq
        have mq := h.all q (List.mem_of_getLast? hq)
        have mz : movedE q.1 p.1 = 0 := moved_zero hp.ne mq.ne (a.fix pq').2
        have el : joinF l.dropLast q.1 m = l := by
          rw [joinF_app mq.ne fun r hr => ?_]
          · have : fixP q.1 m = q := by unfold fixP; rw [← mq.fix pq']
            rw [this]
            exact (last_split hq).symm
          · have b := h.pre hq hr
            cases y : isPow r with
            | true => rfl
            | false =>
              have := (b.fix y).1
              rw [pq'] at this
              cases this
        rw [mz, Nat.sub_zero, List.take_length, List.drop_length, rotR_zero, el, pushP_app fun q' hq' => by rw [hq] at hq'; cases hq'; exact fun z => pq z.1]
        exact joinF_nil (last l) e
    · next hn =>
      rw [pushP_app fun q' hq' => by rw [hn] at hq'; cases hq']
      exact joinF_nil (last l) e
theorem Nm.take {m : Nat} {l : List Pn} (h : Nm m l) (i : Nat) : Nm m (l.take i) := by
  refine ⟨fun p hp => h.all p (List.mem_of_mem_take hp), fun j p q hj hq => ?_⟩
  rw [List.getElem?_take] at hj hq
  split at hq
  · split at hj
    · exact h.adj j p q hj hq
    · cases hj
  · cases hq
theorem normL_take {m : Nat} {ps : List Pn} (h : Nm m ps) : ∀ i, i ≤ ps.length → normL (ps.take i) = ps.take i
  | 0, _ => by simp [normL]
  | i + 1, hi => by
    have hp := List.getElem?_eq_getElem (show i < ps.length by omega)
    generalize ps[i] = p at hp
    have e : ps.take (i + 1) = ps.take i ++ [p] := by rw [List.take_succ, hp]; rfl
    rw [e]
    unfold normL
    rw [List.foldl_append]
    have := normL_take h i (by omega)
    unfold normL at this
    rw [this]
    refine step_fix (h.take i) (h.all p (List.mem_of_getElem? hp)) fun q hq => ?_
    rw [List.getLast?_eq_getElem?, List.length_take, Nat.min_eq_left (by omega)] at hq
    rw [List.getElem?_take] at hq
    split at hq
    · refine h.adj (i - 1) q p hq ?_
      rw [show i - 1 + 1 = i by omega]
      exact hp
    · cases hq
/-- a normal list is its own -/
theorem normL_id {m : Nat} {ps : List Pn} (h : Nm m ps) : normL ps = ps := by
  have := normL_take h ps.length (Nat.le_refl _)
  rw [List.take_length] at this
  exact this
end NM

set_option Elab.async false
set_option linter.all false
set_option maxRecDepth 100000
set_option maxHeartbeats 2000000
namespace K61
open PySem PySem.Spec PyProof.Rows L2 CK SX NM
/-! ### letters -/
def Low (w : List Nat) : Prop := ∀ c ∈ w, 97 ≤ c ∧ c ≤ 122
theorem low_cases {c : Nat} (h : 97 ≤ c ∧ c ≤ 122) : Unicode.isAlpha c = true ∧ Unicode.isLower c = true ∧ (Unicode.isUpper c || Unicode.isTitle c) = false := by
  have : c ∈ List.range' 97 26 := by
    rw [List.mem_range']
    exact ⟨c - 97, by omega, by omega⟩
  have all : (List.range' 97 26).all (fun c => Unicode.isAlpha c && Unicode.isLower c && !(Unicode.isUpper c || Unicode.isTitle c)) = true := by decide +kernel
  have := List.all_eq_true.mp all c this
  simp only [Bool.and_eq_true, Bool.not_eq_true'] at this
  exact ⟨this.1.1, this.1.2, this.2⟩
theorem low_ascii {w : List Nat} (h : Low w) : Txt.isascii (S w) = true := by
  unfold Txt.isascii
  rw [← Array.all_toList, List.all_eq_true]
  exact fun c hc => decide_eq_true (by have := h c hc; omega)
theorem low_alpha {w : List Nat} (h : Low w) (ne : w ≠ []) : Txt.isalpha (S w) = true := by
  unfold Txt.isalpha
  rw [← Array.all_toList, S_len, decide_eq_true (List.length_pos_iff.mpr ne), Bool.true_and, List.all_eq_true]
  exact fun c hc => (low_cases (h c hc)).1
theorem low_lower {w : List Nat} (h : Low w) (ne : w ≠ []) : Txt.islower (S w) = true := by
  unfold Txt.islower
  rw [← Array.any_toList, ← Array.any_toList, Bool.and_eq_true]
  constructor
  · obtain ⟨c, hc⟩ := List.exists_mem_of_ne_nil w ne
    exact List.any_eq_true.mpr ⟨c, hc, (low_cases (h c hc)).2.1⟩
  · rw [Bool.not_eq_true', List.any_eq_false]
    exact fun c hc => by rw [(low_cases (h c hc)).2.2]; exact Bool.false_ne_true
section
variable {P : Program} {w : World} {K : PySem.W.Frag} {mg : Str → Option Value} {base : Heap} {C : Addr}
/-! ### checks -/
def sp_is_whole : Sp := fun vs H Q _ => ∃ v, vs = [v] ∧ Kn H v ∧ Q (.bl (isW v)) H
theorem c_is_whole (T : Txt K mg C) : C8.Cal P w K mg base 1 "is_whole" sp_is_whole [] := by
  refine calF T.d_is_whole sc_is_whole (fun vs H Q E h => ?_) (fun f cdv A outer s H vs Q E hr h => ?_)
  · obtain ⟨v, rfl, _⟩ := h; rfl
  · obtain ⟨v, rfl, k, q⟩ := h
    refine ⟨_, (pss_one (ps_ret (pe_and (pe_callB call_isK (by rfl) T.m_isinstance (by decide +kernel) (pa_cons (pv 0) (pa_cons (pe_bltn (v := .ty "int") (by rfl) T.m_int (by decide +kernel) rfl) pa_nil))) (pe_one (pe_not (pe_callB call_isK (by rfl) T.m_isinstance (by decide +kernel) (pa_cons (pv 0) (pa_cons (pe_bltn (v := .ty "bool") (by rfl) T.m_bool (by decide +kernel) rfl) pa_nil)))))))), ?_⟩
    refine ⟨v, rfl, v, "int", _, rfl, k, kit_int k, _, rfl, ite2 (fun e => ?_) (fun e => ?_)⟩
    · refine ⟨v, rfl, v, "bool", _, rfl, k, kit_bool k, _, rfl, ?_⟩
      rw [show (!isBo v) = isW v by cases v <;> first | rfl | (exact absurd e Bool.false_ne_true)]
      exact q
    · rw [show false = isW v by cases v <;> first | rfl | (exact absurd rfl e)]
      exact q
def sp_is_count : Sp := fun vs H Q _ => ∃ v, vs = [v] ∧ Kn H v ∧ Q (.bl (isC v)) H
theorem c_is_count (T : Txt K mg C) : C8.Cal P w K mg base 2 "is_count" sp_is_count [] := by
  refine calF T.d_is_count sc_is_count (fun vs H Q E h => ?_) (fun f cdv A outer s H vs Q E hr h => ?_)
  · obtain ⟨v, rfl, _⟩ := h; rfl
  · obtain ⟨v, rfl, k, q⟩ := h
    refine ⟨_, (pss_one (ps_ret (pe_and (C8.pe_c (c_is_whole T) hr (by decide) (by rfl) (pa_cons (pv 0) pa_nil)) (pe_one (pe_cmpR op_ge (pv 0) pe_int (nomark _)))))), ?_⟩
    refine ⟨v, rfl, v, rfl, k, _, rfl, ite2 (fun e => ?_) (fun e => ?_)⟩
    · cases v <;> first | (exact absurd e Bool.false_ne_true) | exact ⟨_, rfl, _, 0, rfl, rfl, q⟩
    · rw [show false = isC v by cases v <;> first | rfl | (exact absurd rfl e)]
      exact q
theorem len_line {w : List Nat} (h : w.length ≤ 1000000) : (S w).length ≤ sizeLine := by rw [S_len, sizeLine_eq]; omega
def sp_is_lettered : Sp := fun vs H Q _ => ∃ (z : List Nat) (m : Nat), vs = [.str (S z), .int m] ∧ z.length ≤ 1000000 ∧ Low z ∧ Q (.bl (decide (z.length ≤ m))) H
theorem S_nil {z : List Nat} (h : (S z : Str) = "") : z = [] := by
  have := congrArg Str.length h
  rw [S_len] at this
  exact List.length_eq_zero_iff.mp this
theorem c_is_lettered (T : Txt K mg C) : C8.Cal P w K mg base 1 "is_lettered" sp_is_lettered [] := by
  refine calF T.d_is_lettered sc_is_lettered (fun vs H Q E h => ?_) (fun f cdv A outer s H vs Q E hr h => ?_)
  · obtain ⟨_, _, rfl, _⟩ := h; rfl
  · obtain ⟨z, m, rfl, hl, lw, q⟩ := h
    refine ⟨_, (pss_cons (ps_if (PW.pt (pw_or (pt_not (pt_val (pe_callB call_isK (by rfl) T.m_isinstance (by decide +kernel) (pa_cons (pv 0) (pa_cons (pe_bltn (v := .ty "str") (by rfl) T.m_str (by decide +kernel) rfl) pa_nil))))) (pw_or1 (pt_cmpR op_gt (pe_callB call_len_str (by rfl) T.m_len (by decide +kernel) (pa_cons (pv 0) pa_nil)) (pv 1) (nomark _)))))
    (pss_one (ps_ret pe_bl))
    pss_nil)
    (pss_one (ps_ret (pe_or (pe_cmpR op_eq (pv 0) pe_str (nomark _)) (pe_one (pe_and (pe_m0 PySem.F.slot_str_isascii PySem.F.type_str_isascii mt_isascii (pv 0)) (pe_and (pe_m0 PySem.F.slot_str_isalpha PySem.F.type_str_isalpha mt_isalpha (pv 0)) (pe_one (pe_m0 PySem.F.slot_str_islower PySem.F.type_str_islower mt_islower (pv 0)))))))))), ?_⟩
    refine ⟨_, rfl, .str (S z), "str", true, rfl, .str _, by show kitB "str" "str" = some true; decide +kernel, _, rfl, iteF ?_⟩
    refine ⟨_, rfl, S z, rfl, len_line hl, _, rfl, _, m, rfl, rfl, _, rfl, ?_⟩
    rw [S_len]
    by_cases hm : ¬ z.length ≤ m
    · rw [decide_eq_false hm] at q
      rw [decide_eq_true (show (z.length : Int) > m by omega)]
      exact iteT q
    rw [decide_eq_true (show z.length ≤ m by omega)] at q
    rw [decide_eq_false (show ¬ (z.length : Int) > m by omega)]
    refine iteF ⟨_, rfl, rfl, _, rfl, ite2 (fun e => q) fun e => ?_⟩
    have ne : z ≠ [] := fun y => e (by rw [y]; decide +kernel)
    refine ⟨_, rfl, ⟨_, rfl⟩, _, rfl, rfl, trivial, _, rfl, ?_⟩
    rw [low_ascii lw]
    refine iteT ⟨_, rfl, ⟨_, rfl⟩, _, rfl, rfl, trivial, _, rfl, ?_⟩
    rw [low_alpha lw ne]
    refine iteT ⟨_, rfl, ⟨_, rfl⟩, _, rfl, rfl, trivial, ?_⟩
    rw [low_lower lw ne]
    exact q
/-- what is_form_for says of a value -/
def formB (H : Hp) (m : Int) : V → Bool
  | .ref a => match H a with
    | some (.tup xs) => decide ((xs.length : Int) = m + 1) && xs.all isC
    | _ => false
  | _ => false
theorem formB_tup {H : Hp} {m : Int} {a : Addr} {xs : List V} (h : H a = some (.tup xs)) : formB H m (.ref a) = (decide ((xs.length : Int) = m + 1) && xs.all isC) := by simp only [formB, h]
/-- a form in the heap -/
def FT (H : Hp) (a : Addr) (f : F) : Prop := H a = some (.tup (f.map fun n : Nat => V.int (n : Nat)))
theorem FT.same {H H' : Hp} {a : Addr} {f : F} (h : FT H a f) (s : Same H H') : FT H' a f := s _ _ h
theorem formB_FT {H : Hp} {m : Nat} {a : Addr} {f : F} (h : FT H a f) (hl : f.length = m + 1) : formB H m (.ref a) = true := by
  rw [formB_tup h, List.length_map, hl, decide_eq_true (show ((m + 1 : Nat) : Int) = (m : Int) + 1 by omega), Bool.true_and, List.all_map, List.all_eq_true]
  exact fun x hx => decide_eq_true (show (0 : Int) ≤ ((x : Nat) : Int) by omega)
end
end K61

set_option Elab.async false
set_option linter.all false
set_option maxRecDepth 100000
set_option maxHeartbeats 4000000
namespace K61
open PySem PySem.Spec PyProof.Rows L2 CK SX NM
theorem re_st {t : TS} {D : Ends} {σ σ' : L2.St} {H : Hp} (e : σ = σ') (h : t D σ' H) : t D σ H := by
  subst e
  exact h
theorem slice_mid {a : List Nat} {i j : Nat} (h : i ≤ j) (hj : j ≤ a.length) : Txt.slice (S a) (some (i : Int)) (some (j : Int)) = S ((a.drop i).take (j - i)) := by
  have e := beq_iff_eq.mp (slice_closesL (x := S a) (i := (i : Int)) (j := (j : Int)) (by omega) (by omega) (by rw [S_len]; omega))
  refine e.trans (TL.ext_tl ?_)
  show (a.drop (i : Int).toNat).take ((j : Int) - (i : Int)).toNat = (a.drop i).take (j - i)
  congr 1
  omega
theorem lcp_mid {a b : WM.W} {lo mid : Nat} (h1 : lo ≤ WM.lcp a b) (h2 : lo ≤ mid) (ha : mid ≤ a.length) (hb : mid ≤ b.length) :
    (a.drop lo).take (mid - lo) = (b.drop lo).take (mid - lo) ↔ mid ≤ WM.lcp a b := by
  have sp : ∀ z : WM.W, z.take mid = z.take lo ++ (z.drop lo).take (mid - lo) := fun z => by
    have : mid = lo + (mid - lo) := by omega
    conv => lhs; rw [this]
    rw [List.take_add]
  rw [← WM.lcp_iff ha hb, sp a, sp b, WM.lcp_take a b lo h1]
  constructor
  · intro h
    rw [h]
  · intro h
    exact List.append_cancel_left h
section
variable {X : Cx}
/-- s * n, up to a million letters -/
theorem op_repM : OpR X (binaryOp .Mult) (fun x y H Q => ∃ (z : List Nat) (n : Nat), x = .str (S z) ∧ y = .int n ∧ n ≤ 1000000 ∧ z.length ≤ 1000000 ∧ n * z.length ≤ 1000000 ∧ Q (.str (S (List.replicate n z).flatten)) H) := by
  intro pins s σ H x y v u Q I rx ry h
  obtain ⟨z, n, rfl, rfl, hn, hz, hm, q⟩ := h
  obtain ⟨t, rfl⟩ := rx
  obtain ⟨t', rfl⟩ := ry
  have hl : (List.replicate n z).flatten.length = n * z.length := by simp
  refine P.mul_str (by simp; omega) (fun h1 h2 => ?_) (fun h1 h2 => ?_) ?_
  · rw [S_len]
    have hn0 : (0 : Int) < n := by omega
    have h3 : (1000000 : Int) ≤ (2 ^ 63 - 1) / (n : Int) := by
      refine (Int.le_ediv_iff_mul_le hn0).mpr ?_
      have : (1000000 : Int) * n ≤ 1000000 * 1000000 := Int.mul_le_mul_of_nonneg_left (by omega) (by decide)
      omega
    omega
  · rw [S_len, Int.toNat_natCast, Nat.mul_comm]
    have : n * z.length ≤ sizeLine := by rw [sizeLine_eq]; omega
    unfold Builtin.Str.tooLong
    simp
    omega
  · by_cases h1 : (n : Int) < 1
    · rw [if_pos h1]
      have e : n = 0 := by omega
      subst e
      exact ⟨by decide, .str _, H, I.tok _, ⟨_, rfl⟩, q⟩
    · rw [if_neg h1]
      by_cases h2 : ((n : Int) == 1 || (S z).length == 0) = true
      · rw [if_pos h2]
        have e : (List.replicate n z).flatten = z := by
          rw [Bool.or_eq_true, beq_iff_eq, beq_iff_eq, S_len] at h2
          rcases h2 with h2 | h2
          · have : n = 1 := by omega
            subst this
            simp
          · rw [List.length_eq_zero_iff.mp h2]
            simp
        rw [e] at q
        exact ⟨.str _, H, I, ⟨_, rfl⟩, q⟩
      · rw [if_neg h2]
        have e : (⟨(List.replicate (n : Int).toNat (S z).cps).foldl (· ++ ·) #[]⟩ : Str) = S (List.replicate n z).flatten := by
          refine TL.ext_tl ?_
          show ((List.replicate (n : Int).toNat (S z).cps).foldl (· ++ ·) #[]).toList = _
          rw [Int.toNat_natCast, foldl_arr]
          rfl
        rw [e]
        exact ⟨by rw [S_len, hl, sizeLine_eq]; omega, .str _, H, I.tok _, ⟨_, rfl⟩, q⟩
end
section
variable {P : Program} {w : World} {K : PySem.W.Frag} {mg : Str → Option Value} {base : Heap} {C : Addr}
/-! ### words -/
theorem fmodZ (i : Int) {n : Nat} (h : n ≠ 0) : ∃ k : Nat, i.fmod (n : Int) = k ∧ k < n := by
  have h0 : 0 ≤ i.fmod (n : Int) := Int.fmod_nonneg_of_pos i (by omega)
  have h1 : i.fmod (n : Int) < n := Int.fmod_lt_of_pos i (by omega)
  exact ⟨(i.fmod n).toNat, by omega, by omega⟩
def rotZ (z : List Nat) (i : Int) : List Nat := z.drop (i.fmod (z.length : Int)).toNat ++ z.take (i.fmod (z.length : Int)).toNat
theorem fmod_neg (k : Nat) {n : Nat} (h : 0 < n) : (-(k : Int)).fmod (n : Int) = (((n - k % n) % n : Nat) : Int) := by
  have hm := Nat.mod_lt k h
  have hd := Nat.mod_add_div k n
  rw [Int.fmod_eq_emod_of_nonneg _ (by omega)]
  have e : (-(k : Int)) = ((n - k % n : Nat) : Int) + (n : Int) * (-((k / n : Nat) : Int) - 1) := by
    have : ((n - k % n : Nat) : Int) = (n : Int) - ((k % n : Nat) : Int) := by omega
    rw [this]
    have h2 : (k : Int) = ((k % n : Nat) : Int) + (n : Int) * ((k / n : Nat) : Int) := by
      have := congrArg (fun z : Nat => (z : Int)) hd
      simp only [Int.natCast_add, Int.natCast_mul] at this
      exact this.symm
    rw [Int.mul_sub, Int.mul_neg, Int.mul_one]
    omega
  rw [e, Int.add_mul_emod_self_left]
  rfl
theorem rotZ_neg {z : List Nat} (h : z ≠ []) (k : Nat) : rotZ z (-(k : Int)) = rotR z k := by
  have n0 := List.length_pos_iff.mpr h
  unfold rotZ rotR
  rw [fmod_neg k n0, Int.toNat_natCast]
  by_cases e : k % z.length = 0
  · rw [e, Nat.sub_zero, Nat.mod_self]
    simp
  · have hm := Nat.mod_lt k n0
    rw [Nat.mod_eq_of_lt (show z.length - k % z.length < z.length by omega)]
def sp_turned : Sp := fun vs H Q _ => ∃ (z : List Nat) (k : Int), vs = [.str (S z), .int k] ∧ z.length ≤ 1000000 ∧ z ≠ [] ∧ Q (.str (S (rotZ z k))) H
theorem c_turned_word (T : Txt K mg C) : C8.Cal P w K mg base 1 "turned_word" sp_turned [] := by
  refine calF T.d_turned_word sc_turned_word (fun vs H Q E h => ?_) (fun f cdv A outer s H vs Q E hr h => ?_)
  · obtain ⟨_, _, rfl, _⟩ := h; rfl
  · obtain ⟨z, k, rfl, hl, ne, q⟩ := h
    have n0 := List.length_pos_iff.mpr ne
    refine ⟨_, (pss_cons (ps_if (pt_not (pt_truth (pv 0) (by intro _; rfl)))
    (pss_one (ps_ret (pv 0)))
    pss_nil)
    (pss_cons (ps_set (i := 2) sc_turned_word.nd rfl (Or.inl rfl) (pe_op op_modN (pv 1) (pe_callB call_len_str (by rfl) T.m_len (by decide +kernel) (pa_cons (pv 0) pa_nil))))
    (pss_one (ps_ret (pe_op op_add_str (pe_slice C8.sl_txt (pv 0) (po_some (pv 2)) po_none) (pe_slice C8.sl_txt (pv 0) po_none (po_some (pv 2)))))))), ?_⟩
    refine ⟨_, rfl, true, ⟨len_line hl, by rw [S_len]; symm; rw [bne_iff_ne]; omega⟩, iteF ?_⟩
    obtain ⟨m, hm, hlt⟩ := fmodZ k (show z.length ≠ 0 by omega)
    refine ⟨_, rfl, _, rfl, S z, rfl, len_line hl, k, z.length, rfl, congrArg (fun n : Nat => V.int n) (S_len z), by omega, ?_⟩
    refine ⟨_, rfl, _, rfl, m, congrArg V.int hm, S z, rfl, len_line hl, _, rfl, _, rfl, m, congrArg V.int hm, S z, rfl, len_line hl, ?_⟩
    rw [SX.slice_from (by omega), SX.slice_to (by omega), Int.toNat_natCast]
    refine ⟨_, _, rfl, rfl, ?_, ?_⟩
    · rw [S_len, S_len, List.length_drop, List.length_take, sizeLine_eq]
      omega
    · rw [S_cat]
      unfold rotZ at q
      rw [hm, Int.toNat_natCast] at q
      exact q
theorem stretch_tail {u : List Nat} (h : u ≠ []) (n k : Nat) (hk : (u.length - n % u.length) % u.length + n ≤ u.length * k) :
    ((List.replicate k u).flatten.drop ((u.length - n % u.length) % u.length)).take n = tailE u n := by
  have n0 := List.length_pos_iff.mpr h
  have l : (List.replicate k u).flatten.length = u.length * k := WM.pw_len u k
  refine List.ext_getElem? fun i => ?_
  by_cases hi : i < n
  · rw [List.getElem?_take_of_lt hi, List.getElem?_drop, tailE_get h hi]
    have := WM.pw_get h k ((u.length - n % u.length) % u.length + i) (by omega)
    unfold WM.pw at this
    rw [this]
    congr 1
    rw [Nat.mod_add_mod, Nat.add_comm]
  · rw [List.getElem?_eq_none (by rw [List.length_take]; omega), List.getElem?_eq_none (by rw [tailE_len h]; omega)]
end
end K61

set_option Elab.async false
set_option linter.all false
set_option maxRecDepth 100000
set_option maxHeartbeats 4000000
namespace K61
open PySem PySem.Spec PyProof.Rows L2 CK SX NM
/-- the borders' sizes, up to the place i -/
def szL (z : List Nat) (i : Nat) : List Nat := (List.range z.length).map fun j => if j ≤ i then WM.lb (z.take (j + 1)) else 0
theorem szL_len (z : List Nat) (i : Nat) : (szL z i).length = z.length := by simp [szL]
theorem szL_get {z : List Nat} {i j : Nat} (h : j ≤ i) (hj : j < z.length) : (szL z i)[j]? = some (WM.lb (z.take (j + 1))) := by
  unfold szL
  rw [List.getElem?_map, List.getElem?_range hj]
  simp [h]
theorem szL_zero {z : List Nat} (h : z ≠ []) : szL z 0 = List.replicate z.length 0 := by
  refine List.ext_getElem? fun j => ?_
  unfold szL
  by_cases hj : j < z.length
  · rw [List.getElem?_map, List.getElem?_range hj, List.getElem?_replicate, if_pos hj]
    simp only [Option.map_some]
    split
    · rename_i e
      have : j = 0 := by omega
      subst this
      rw [WM.lb_one]
    · rfl
  · rw [List.getElem?_eq_none (by simp; omega), List.getElem?_eq_none (by simp; omega)]
theorem szL_zero0 {z : List Nat} : szL z 0 = List.replicate z.length 0 := by
  cases z with
  | nil => rfl
  | cons c r => exact szL_zero (List.cons_ne_nil _ _)
theorem szL_set {z : List Nat} {i : Nat} (h : i + 1 < z.length) : (szL z i).set (i + 1) (WM.lb (z.take (i + 2))) = szL z (i + 1) := by
  refine List.ext_getElem? fun j => ?_
  by_cases hj : j < z.length
  · rw [List.getElem?_set]
    unfold szL
    by_cases e : i + 1 = j
    · subst e
      rw [if_pos rfl, if_pos (by simp; omega), List.getElem?_map, List.getElem?_range hj]
      simp
    · rw [if_neg e, List.getElem?_map, List.getElem?_map, List.getElem?_range hj]
      simp only [Option.map_some]
      congr 1
      by_cases a : j ≤ i
      · rw [if_pos a, if_pos (by omega)]
      · rw [if_neg a, if_neg (by omega)]
  · rw [List.getElem?_eq_none (by simp [szL]; omega), List.getElem?_eq_none (by simp [szL]; omega)]
def natsV (ns : List Nat) : List V := ns.map fun n : Nat => V.int (n : Nat)
theorem natsV_get {ns : List Nat} {i n : Nat} (h : ns[i]? = some n) : (natsV ns)[i]? = some (.int (n : Nat)) := by
  unfold natsV
  rw [List.getElem?_map, h]
  rfl
theorem natsV_set (ns : List Nat) (i n : Nat) : (natsV ns).set i (.int (n : Nat)) = natsV (ns.set i n) := by
  unfold natsV
  rw [List.map_set]
theorem natsV_len (ns : List Nat) : (natsV ns).length = ns.length := by simp [natsV]
section
variable {P : Program} {w : World} {K : PySem.W.Frag} {mg : Str → Option Value} {base : Heap} {C : Addr}
def sp_border : Sp := fun vs H Q _ => ∃ (z : List Nat), vs = [.str (S z)] ∧ z.length ≤ 1000000 ∧ ∀ p H', Same H H' → H p = none → H' p = some (.lst (natsV (szL z (z.length - 1)))) → Q (.ref p) H'
theorem c_border_sizes (T : Txt K mg C) : C8.Cal P w K mg base 1 "border_sizes" sp_border [] := by
  refine calF T.d_border_sizes sc_border_sizes (fun vs H Q E h => ?_) (fun f cdv A outer s H vs Q E hr h => ?_)
  · obtain ⟨_, rfl, _⟩ := h; rfl
  · obtain ⟨z, rfl, hz, q⟩ := h
    refine ⟨_, (pss_cons (ps_set (i := 1) sc_border_sizes.nd rfl (Or.inl rfl) (pe_op op_rep (pe_lst (pa_cons pe_int pa_nil)) (pe_callB call_len_str (by rfl) T.m_len (by decide +kernel) (pa_cons (pv 0) pa_nil))))
    (pss_cons (ps_set (i := 2) sc_border_sizes.nd rfl (Or.inl rfl) pe_int)
    (pss_cons (ps_for PassesOwn.never rfl (pi_range2 (by rfl) T.m_range (pa_cons pe_int (pa_cons (pe_callB call_len_str (by rfl) T.m_len (by decide +kernel) (pa_cons (pv 0) pa_nil)) pa_nil))) (pg_name (i := 3) sc_border_sizes.nd rfl (Or.inl rfl))
    (pss_cons (ps_while PassesOwn.never (PW.pt (pw_and (pt_truth (pv 2) (by intro _; rfl)) (pw_and1 (pt_cmpR op_ne (pe_ix ix_str (pv 0) (pv 3) (fun _ _ => rfl)) (pe_ix ix_str (pv 0) (pv 2) (fun _ _ => rfl)) (nomark _)))))
    (pss_one (ps_set (i := 2) sc_border_sizes.nd rfl (Or.inl rfl) (pe_ix ix_list (pv 1) (pe_op op_sub (pv 2) pe_int) (fun _ _ => rfl)))))
    (pss_cons (ps_if (pt_cmpR op_eq (pe_ix ix_str (pv 0) (pv 3) (fun _ _ => rfl)) (pe_ix ix_str (pv 0) (pv 2) (fun _ _ => rfl)) (nomark _))
    (pss_one (ps_aug (i := 2) sc_border_sizes.nd rfl (.inl rfl) pe_int ip_add))
    pss_nil)
    (pss_one (ps_asg (pv 2) (pg_sub (pv 1) (pv 3) set_list))))))
    (pss_one (ps_ret (pv 1)))))), ?_⟩
    refine ⟨by show 1 ≤ sizeLine; decide, fun L0 h0 => ⟨_, rfl, S z, rfl, len_line hz, L0, _, _, rfl, rfl, upd_same, by omega, by rw [S_len]; omega, by rw [S_len, sizeLine_eq]; simp; omega, fun p hp => ?_⟩⟩
    have s0 := (sameNew (o := .lst [V.int 0]) h0).trans (sameNew (o := .lst (List.replicate (((S z).length : Nat) : Int).toNat [V.int 0]).flatten) hp)
    have hp0 : H p = none := (sameNew (o := .lst [V.int 0]) h0).free hp
    have e0 : (List.replicate (((S z).length : Nat) : Int).toNat [V.int 0]).flatten = natsV (szL z 0) := by
      rw [S_len, Int.toNat_natCast, szL_zero0]
      unfold natsV
      rw [List.map_replicate]
      generalize z.length = k
      induction k with
      | zero => rfl
      | succ k ih => rw [List.replicate_succ, List.flatten_cons, ih, List.replicate_succ]; rfl
    rw [e0] at s0 ⊢
    have hpl : (upd (upd H L0 (.lst [V.int 0])) p (.lst (natsV (szL z 0)))) p = some (.lst (natsV (szL z 0))) := upd_same
    generalize upd (upd H L0 (.lst [V.int 0])) p (.lst (natsV (szL z 0))) = H1 at s0 hpl
    refine ⟨_, rfl, S z, rfl, len_line hz, 1, _, rfl, ⟨by omega, by omega, by omega, by rw [S_len]; omega⟩, ?_⟩
    refine for_it walk_range (fun i σ H' => i ≤ z.length - 1 ∧ SameX p H1 H' ∧ H' p = some (.lst (natsV (szL z i))) ∧ ∃ (zs : Int) (y3 : Option V), σ = [some (.str (S z)), some (.ref p), some (.int zs), y3] ∧ zs = ((WM.lb (z.take (i + 1)) : Nat) : Int))
      ⟨by omega, .refl _ _, hpl, 0, none, rfl, by rw [WM.lb_one]; rfl⟩ (fun _ _ _ _ _ => True.intro) (fun i x σ H' H'' hi pI yy => ?_) fun σ H' pI => ?_
    · obtain ⟨_, s1, hl1, zs, y3, rfl, rfl⟩ := pI
      obtain ⟨rfl, rfl⟩ := yy
      have hi' : i + 1 < z.length := by
        have : i < ((((S z).length : Nat) : Int) - 1).toNat := hi
        rw [S_len] at this
        omega
      have zn : z[i + 1]? = some z[i + 1] := List.getElem?_eq_getElem hi'
      generalize z[i + 1] = cn at zn
      have cand0 : WM.Cand z (i + 1) (WM.lb (z.take (i + 1))) := WM.cand_start (by omega) (by omega)
      refine while_by (fun σ H2 => H2 = H'' ∧ ∃ (s' : Nat) (zs : Int), σ = [some (.str (S z)), some (.ref p), some (.int zs), some (.int (1 + (i : Int)))] ∧ zs = s' ∧ WM.Cand z (i + 1) s')
        (fun σ _ => match σ with | [_, _, some (.int zs), _] => zs.toNat | _ => 0) ⟨rfl, _, _, rfl, rfl, cand0⟩ (fun σ H2 pJ => ?_) ?_
      · obtain ⟨rfl, s', zs, rfl, rfl, cand⟩ := pJ
        have slt := cand.1
        have zk : z[s']? = some z[s'] := List.getElem?_eq_getElem (by omega)
        generalize z[s'] = ck at zk
        refine ⟨_, rfl, _, rfl, ?_⟩
        by_cases z0 : s' = 0
        · subst z0
          refine iteF ?_
          refine ⟨_, rfl, _, rfl, S z, 1 + (i : Int), cn, rfl, rfl, len_line hz, ?_, _, rfl, _, rfl, S z, ((0 : Nat) : Int), ck, rfl, rfl, len_line hz, atI_nat (xs := z) zk, rfl, _, rfl, ?_⟩
          · rw [show 1 + (i : Int) = ((i + 1 : Nat) : Int) by omega]
            exact atI_nat (xs := z) zn
          refine ite2 (fun e => ?_) (fun e => ?_)
          · have ec : cn = ck := by
              have := S_inj (a := [cn]) (b := [ck]) (V.str.inj (of_decide_eq_true e))
              simpa using this
            have hit := WM.cand_hit hi' cand (by rw [zk, zn, ec])
            refine ⟨_, rfl, _, _, rfl, rfl, _, rfl, _, rfl, _, rfl, p, _, 1 + (i : Int), i + 1, rfl, rfl, hl1, ?_, ?_⟩
            · unfold ixN
              rw [natsV_len, szL_len, if_pos (by omega), if_pos (by omega)]
              congr 1
              omega
            · refine ⟨by omega, fun b o hb e => by rw [upd_ne hb]; exact s1 b o hb e, ?_, _, _, rfl, by rw [show i + 1 + 1 = i + 2 by omega] at hit ⊢; rw [hit]; rfl⟩
              rw [upd_same]
              have := natsV_set (szL z i) (i + 1) (WM.lb (z.take (i + 2)))
              rw [szL_set hi', show i + 2 = i + 1 + 1 by omega, hit] at this
              rw [← this]
              rfl
          · have nc : z[0]? ≠ z[i + 1]? := by
              rw [zk, zn]
              intro y
              exact e (decide_eq_true (by rw [Option.some.inj y]))
            have miss := WM.cand_miss hi' cand nc
            refine ⟨_, rfl, _, rfl, _, rfl, p, _, 1 + (i : Int), i + 1, rfl, rfl, hl1, ?_, ?_⟩
            · unfold ixN
              rw [natsV_len, szL_len, if_pos (by omega), if_pos (by omega)]
              congr 1
              omega
            · refine ⟨by omega, fun b o hb e => by rw [upd_ne hb]; exact s1 b o hb e, ?_, _, _, rfl, by rw [miss]⟩
              rw [upd_same]
              have := natsV_set (szL z i) (i + 1) (WM.lb (z.take (i + 2)))
              rw [szL_set hi', show i + 2 = i + 1 + 1 by omega, miss] at this
              rw [← this]
        · have tz : ((((s' : Nat) : Int)) != 0) = true := by rw [bne_iff_ne]; omega
          rw [tz]
          refine iteT ?_
          refine ⟨_, rfl, _, rfl, S z, 1 + (i : Int), cn, rfl, rfl, len_line hz, ?_, _, rfl, _, rfl, S z, ((s' : Nat) : Int), ck, rfl, rfl, len_line hz, atI_nat (xs := z) zk, rfl, _, rfl, ?_⟩
          · rw [show 1 + (i : Int) = ((i + 1 : Nat) : Int) by omega]
            exact atI_nat (xs := z) zn
          by_cases ec : cn = ck
          · refine iteNS (by rw [ec]) ?_
            refine ⟨_, rfl, _, rfl, S z, 1 + (i : Int), cn, rfl, rfl, len_line hz, ?_, _, rfl, _, rfl, S z, ((s' : Nat) : Int), ck, rfl, rfl, len_line hz, atI_nat (xs := z) zk, rfl, _, rfl, ?_⟩
            · rw [show 1 + (i : Int) = ((i + 1 : Nat) : Int) by omega]
              exact atI_nat (xs := z) zn
            rw [ec, decide_eq_true rfl]
            have hit := WM.cand_hit hi' cand (by rw [zk, zn, ec])
            refine iteT ⟨_, rfl, _, _, rfl, rfl, _, rfl, _, rfl, _, rfl, p, _, 1 + (i : Int), i + 1, rfl, rfl, hl1, ?_, ?_⟩
            · unfold ixN
              rw [natsV_len, szL_len, if_pos (by omega), if_pos (by omega)]
              congr 1
              omega
            · refine ⟨by omega, fun b o hb e => by rw [upd_ne hb]; exact s1 b o hb e, ?_, _, _, rfl, by rw [show i + 1 + 1 = i + 2 by omega] at hit ⊢; rw [hit]; rfl⟩
              rw [upd_same]
              have := natsV_set (szL z i) (i + 1) (WM.lb (z.take (i + 2)))
              rw [szL_set hi', show i + 2 = i + 1 + 1 by omega, hit] at this
              rw [← this]
              rfl
          · have hd : z[s']? ≠ z[i + 1]? := by
              rw [zk, zn]
              intro y
              exact ec (Option.some.inj y).symm
            have down := WM.cand_down (by omega) cand (by omega) hd
            have : (!decide (V.str (S [cn]) = V.str (S [ck]))) = true := by
              rw [decide_eq_false (fun y => ec (by simpa using S_inj (a := [cn]) (b := [ck]) (V.str.inj y)))]
              rfl
            rw [show (⟨#[cn]⟩ : Str) = S [cn] from rfl, show (⟨#[ck]⟩ : Str) = S [ck] from rfl, this]
            have get := szL_get (z := z) (i := i) (j := s' - 1) (by omega) (by omega)
            rw [show s' - 1 + 1 = s' by omega] at get
            refine iteT ⟨_, rfl, _, rfl, _, _, rfl, rfl, p, _, _, .int ((WM.lb (z.take s') : Nat) : Int), rfl, rfl, .inl (.inl hl1), ?_, ⟨rfl, WM.lb (z.take s'), _, rfl, rfl, down⟩, ?_⟩
            · rw [show ((s' : Nat) : Int) - 1 = ((s' - 1 : Nat) : Int) by omega]
              exact atI_nat (natsV_get get)
            · show (((WM.lb (z.take s') : Nat) : Int)).toNat < (((s' : Nat) : Int)).toNat
              have := WM.lb_lt (w := z.take s') (fun y => by have := congrArg List.length y; rw [List.length_take, List.length_nil] at this; omega)
              rw [List.length_take] at this
              omega
      · intro σ H' Q1 Q2 hq h
        obtain ⟨a1, h1, k, h2, h⟩ := h
        refine ⟨a1, h1, k, h2, ?_⟩
        cases k with
        | false => exact hq _ _ h
        | true =>
          obtain ⟨a1, h1, a2, h2, a3, a4, a5, h3, h4, h5, h6, a6, h7, a7, h8, a8, a9, a10, h9, h10, h11, h12, h13, k, h14, h⟩ := h
          exact ⟨a1, h1, a2, h2, a3, a4, a5, h3, h4, h5, h6, a6, h7, a7, h8, a8, a9, a10, h9, h10, h11, h12, h13, k, h14, hq _ _ h⟩
    · obtain ⟨_, s1, hl1, zs, y3, rfl, rfl⟩ := pI
      have en : ((((S z).length : Nat) : Int) - 1).toNat = z.length - 1 := by rw [S_len]; omega
      rw [en] at hl1
      refine ⟨_, rfl, q p H' (fun b o e => ?_) hp0 hl1⟩
      have hb : b ≠ p := fun y => by rw [y, hp0] at e; cases e
      exact s1 _ _ hb (s0 _ _ e)
/-! ### forms -/
theorem get_nat {xs : List Nat} {i : Nat} {v : V} (h : (xs.map fun n : Nat => V.int (n : Nat))[i]? = some v) : ∃ z, z ∈ xs ∧ xs[i]? = some z ∧ v = .int (z : Nat) := by
  rw [List.getElem?_map] at h
  cases e : xs[i]? with
  | none => rw [e] at h; cases h
  | some z =>
    rw [e] at h
    exact ⟨z, List.mem_of_getElem? e, rfl, (Option.some.inj h).symm⟩
def vAdd : V → V → V
  | .int i, .int j => .int (i + j)
  | _, _ => .non
theorem zip_addN : ∀ (xs ys : List Nat), List.zipWith vAdd (xs.map fun n : Nat => V.int (n : Nat)) (ys.map fun n : Nat => V.int (n : Nat)) = (addF xs ys).map fun n : Nat => V.int (n : Nat)
  | [], _ => by simp [addF]
  | _ :: _, [] => by simp [addF]
  | x :: xs, y :: ys => by
    show V.int ((x : Int) + (y : Int)) :: _ = V.int ((x + y : Nat) : Int) :: _
    rw [zip_addN xs ys]
    rfl
theorem small5 {n : Nat} (h : n ≤ 5) : n < sizeLine := small1000 (by omega)
def Bf (f : F) : Prop := ∀ n ∈ f, n < 2 ^ 900
end
end K61

set_option Elab.async false
set_option linter.all false
set_option maxRecDepth 100000
set_option maxHeartbeats 4000000
namespace K61
open PySem PySem.Spec PyProof.Rows L2 CK SX NM
/-! ### pieces in the heap -/
def PC (H : Hp) (a : Addr) (p : Pn) : Prop := ∃ fa, H a = some (.tup [.str (S p.1), .ref fa]) ∧ FT H fa p.2
theorem PC.mono {H H' : Hp} {a : Addr} {p : Pn} (h : PC H a p) (s : ∀ a xs, H a = some (.tup xs) → H' a = some (.tup xs)) : PC H' a p := by
  obtain ⟨fa, h1, h2⟩ := h
  exact ⟨fa, s _ _ h1, s _ _ h2⟩
inductive Pcs (H : Hp) : List V → List Pn → Prop
  | nil : Pcs H [] []
  | cons {a : Addr} {vs : List V} {p : Pn} {ps : List Pn} : PC H a p → Pcs H vs ps → Pcs H (.ref a :: vs) (p :: ps)
theorem Pcs.mono {H H' : Hp} {vs : List V} {ps : List Pn} (h : Pcs H vs ps) (s : ∀ a xs, H a = some (.tup xs) → H' a = some (.tup xs)) : Pcs H' vs ps := by
  induction h with
  | nil => exact .nil
  | cons e _ ih => exact .cons (e.mono s) ih
theorem tup_same {H H' : Hp} (s : Same H H') : ∀ a xs, H a = some (.tup xs) → H' a = some (.tup xs) := fun a xs e => s _ _ e
theorem tup_upd {H : Hp} {l : Addr} {xs ys : List V} (hl : H l = some (.lst xs)) : ∀ a zs, H a = some (.tup zs) → (upd H l (.lst ys)) a = some (.tup zs) := fun a zs e => by
  rw [upd_ne (fun z => by rw [z, hl] at e; cases e)]
  exact e
theorem tup_sameX {l : Addr} {H H' : Hp} {xs : List V} (hl : H l = some (.lst xs)) (s : SameX l H H') : ∀ a zs, H a = some (.tup zs) → H' a = some (.tup zs) := fun a zs e =>
  s _ _ (fun z => by rw [z, hl] at e; cases e) e
theorem Pcs.same {H H' : Hp} {vs : List V} {ps : List Pn} (h : Pcs H vs ps) (s : Same H H') : Pcs H' vs ps := h.mono (tup_same s)
theorem Pcs.upd {H : Hp} {vs : List V} {ps : List Pn} {l : Addr} {xs ys : List V} (h : Pcs H vs ps) (hl : H l = some (.lst xs)) : Pcs (upd H l (.lst ys)) vs ps := h.mono (tup_upd hl)
theorem Pcs.len {H : Hp} {vs : List V} {ps : List Pn} (h : Pcs H vs ps) : vs.length = ps.length := by
  induction h with
  | nil => rfl
  | cons _ _ ih => simp [ih]
theorem Pcs.app {H : Hp} {vs us : List V} {ps qs : List Pn} (h : Pcs H vs ps) (g : Pcs H us qs) : Pcs H (vs ++ us) (ps ++ qs) := by
  induction h with
  | nil => exact g
  | cons e _ ih => exact .cons e ih
theorem Pcs.get {H : Hp} {vs : List V} {ps : List Pn} (h : Pcs H vs ps) {i : Nat} {v : V} (hi : vs[i]? = some v) : ∃ a p, v = .ref a ∧ ps[i]? = some p ∧ PC H a p := by
  induction h generalizing i with
  | nil => simp at hi
  | cons e _ ih =>
    cases i with
    | zero =>
      cases hi
      exact ⟨_, _, rfl, rfl, e⟩
    | succ i => exact ih hi
theorem Pcs.init {H : Hp} {vs : List V} {ps : List Pn} (h : Pcs H vs ps) : Pcs H vs.dropLast ps.dropLast := by
  induction h with
  | nil => exact .nil
  | cons e h ih =>
    cases h with
    | nil => exact .nil
    | cons e2 h2 => exact .cons e ih
theorem Pcs.one {H : Hp} {a : Addr} {p : Pn} (e : PC H a p) : Pcs H [.ref a] [p] := .cons e .nil
def PL (H : Hp) (l : Addr) (ps : List Pn) : Prop := ∃ vs, H l = some (.lst vs) ∧ Pcs H vs ps
theorem PL.same {H H' : Hp} {l : Addr} {ps : List Pn} (h : PL H l ps) (s : Same H H') : PL H' l ps := by
  obtain ⟨vs, e, p⟩ := h
  exact ⟨vs, s _ _ e, p.same s⟩
theorem last_at {vs : List V} {v : V} (h : vs[vs.length - 1]? = some v) : atI vs (-1) = some v := by
  have := (List.getElem?_eq_some_iff.mp h).1
  unfold atI ixN
  rw [if_neg (by omega), if_pos (by omega)]
  show vs[((-1 : Int) + vs.length).toNat]? = _
  rw [show ((-1 : Int) + vs.length).toNat = vs.length - 1 by omega]
  exact h
theorem head_get {f : F} {m : Nat} (h : f.length = m + 1) : (f.map fun n : Nat => V.int (n : Nat))[0]? = some (.int ((f.headD 0 : Nat) : Int)) := by
  cases f with
  | nil => simp at h
  | cons a f => rfl
theorem nat_dec (a b : Nat) : decide (V.int (a : Nat) = V.int (b : Nat)) = decide (a = b) := by
  by_cases h : a = b
  · rw [h, decide_eq_true rfl, decide_eq_true rfl]
  · rw [decide_eq_false h, decide_eq_false (fun z => h (by have := V.int.inj z; omega))]
theorem not_empty {α : Type} {l : List α} {q : α} (h : l.getLast? = some q) : (!l.isEmpty) = true := by
  cases l with
  | nil => cases h
  | cons _ _ => rfl
section
variable {P : Program} {w : World} {K : PySem.W.Frag} {mg : Str → Option Value} {base : Heap} {C : Addr}
def sp_fixed : Sp := fun vs H Q _ => ∃ (z : List Nat) (m : Nat), vs = [.str (S z), .int m] ∧ m ≤ 3 ∧ ∀ p H', Same H H' → PC H' p (fixP z m) → Q (.ref p) H'
theorem c_fixed_piece (T : Txt K mg C) : C8.Cal P w K mg base 1 "fixed_piece" sp_fixed [] := by
  refine calF T.d_fixed_piece sc_fixed_piece (fun vs H Q E h => ?_) (fun f cdv A outer s H vs Q E hr h => ?_)
  · obtain ⟨_, _, rfl, _⟩ := h; rfl
  · obtain ⟨z, m, rfl, hm, q⟩ := h
    refine ⟨_, (pss_one (ps_ret (pe_tup (pa_cons (pv 0) (pa_cons (pe_op op_catS (pe_tup (pa_cons pe_int pa_nil)) (pe_op op_repOne (pe_tup (pa_cons pe_int pa_nil)) (pv 1))) pa_nil))))), ?_⟩
    refine ⟨_, rfl, by show 1 ≤ sizeLine; decide, fun t1 n1 => ⟨by decide, fun t2 n2 => ⟨_, rfl, t2, _, _, rfl, rfl, upd_same, by omega, by omega, fun p H' s hp => ?_⟩⟩⟩
    have e1 : H' t1 = some (.tup [.int 1]) := s _ _ (by rw [upd_ne (ne_of_none upd_same n2)]; exact upd_same)
    refine ⟨t1, p, _, _, rfl, rfl, e1, hp, by simp; omega, fun p2 H2 s2 h2 => ⟨by show 2 ≤ sizeLine; decide, fun t ht => ?_⟩⟩
    refine q t _ ((((sameNew n1).trans (sameNew n2)).trans (s.trans s2)).trans (sameNew ht)) ⟨p2, upd_same, ?_⟩
    refine sameNew ht _ _ ?_
    rw [h2]
    unfold fixP one1
    simp
theorem tru_word {K : PySem.W.Frag} {H : Hp} {z : List Nat} (h : z.length ≤ 1000000) : TruV K (.str (S z)) H (decide (z ≠ [])) := by
  refine ⟨len_line h, ?_⟩
  rw [S_len]
  by_cases e : z = []
  · subst e; rfl
  · have := List.length_pos_iff.mpr e
    rw [decide_eq_true e]
    symm
    rw [bne_iff_ne]
    omega
theorem SameX.updL {l : Addr} {H H1 : Hp} {o : HO} (s : SameX l H H1) : SameX l H (upd H1 l o) := fun b x hb e => by
  rw [upd_ne hb]
  exact s b x hb e

end
end K61

set_option Elab.async false
set_option linter.all false
set_option maxRecDepth 100000
set_option maxHeartbeats 4000000
namespace K61
open PySem PySem.Spec PyProof.Rows L2 CK SX NM
def Ws (B : Nat) (ps : List Pn) : Prop := ∀ p ∈ ps, p.1.length ≤ B
theorem mem_joinF {acc : List Pn} {z : WM.W} {m : Nat} {p : Pn} (h : p ∈ joinF acc z m) : p ∈ acc ∨ p = fixP z m ∨ ∃ q ∈ acc, p = fixP (q.1 ++ z) m := by
  unfold joinF at h
  split at h
  · next q hq =>
    have mq := List.mem_of_getLast? hq
    split at h
    · split at h
      · exact .inl h
      · rcases List.mem_append.mp h with x | x
        · exact .inl x
        · exact .inr (.inl (List.mem_singleton.mp x))
    · split at h
      · exact .inl (mem_dropLast h)
      · rcases List.mem_append.mp h with x | x
        · exact .inl (mem_dropLast x)
        · exact .inr (.inr ⟨q, mq, List.mem_singleton.mp x⟩)
  · split at h
    · exact .inl h
    · rcases List.mem_append.mp h with x | x
      · exact .inl x
      · exact .inr (.inl (List.mem_singleton.mp x))
theorem len_one1 (m : Nat) : (one1 m).length = m + 1 := by simp [one1]
theorem lenF_joinF {acc : List Pn} {z : WM.W} {m : Nat} (h : LenF m acc) : LenF m (joinF acc z m) := fun p hp => by
  rcases mem_joinF hp with x | x | ⟨q, _, x⟩
  · exact h p x
  · rw [x]; exact len_one1 m
  · rw [x]; exact len_one1 m
theorem ws_joinF {acc : List Pn} {z : WM.W} {m B : Nat} (h : Ws B acc) (hz : z.length ≤ B) : Ws (2 * B) (joinF acc z m) := fun p hp => by
  rcases mem_joinF hp with x | x | ⟨q, hq, x⟩
  · have := h p x
    omega
  · rw [x]
    show z.length ≤ 2 * B
    omega
  · rw [x]
    show (q.1 ++ z).length ≤ 2 * B
    have := h q hq
    rw [List.length_append]
    omega
theorem len_joinF (acc : List Pn) (z : WM.W) (m : Nat) : (joinF acc z m).length ≤ acc.length + 1 := by
  unfold joinF
  split
  · split
    · split <;> simp
    · split <;> simp
      omega
  · split <;> simp
section
variable {P : Program} {w : World} {K : PySem.W.Frag} {mg : Str → Option Value} {base : Heap} {C : Addr}

end
end K61

set_option Elab.async false
set_option linter.all false
set_option maxRecDepth 100000
set_option maxHeartbeats 4000000
namespace K61
open PySem PySem.Spec PyProof.Rows L2 CK SX NM
/-- what holds between two statements -/
theorem cut_seq {t u : TS} {D : Ends} {σ : L2.St} {H : Hp} (Mid : L2.St → Hp → Prop) (h1 : ∀ K : L2.St → Hp → Prop, (∀ σ' H', Mid σ' H' → K σ' H') → t { D with nx := K } σ H) (h2 : ∀ σ' H', Mid σ' H' → u D σ' H') : tSeq t u D σ H := h1 _ h2
theorem meas_cons (p : Pn) (r : List Pn) : meas (p :: r) = measP p + meas r := by simp [meas]
theorem le_meas : ∀ {l : List Pn} {p : Pn}, p ∈ l → measP p ≤ meas l
  | [], _, h => absurd h List.not_mem_nil
  | q :: r, p, h => by
    rw [meas_cons]
    rcases List.mem_cons.mp h with x | x
    · rw [x]; omega
    · have := le_meas x
      omega
theorem len_meas : ∀ {l : List Pn}, (∀ p ∈ l, 1 ≤ measP p) → l.length ≤ meas l
  | [], _ => Nat.zero_le _
  | p :: r, h => by
    have a := len_meas fun q hq => h q (List.mem_cons_of_mem _ hq)
    have b := h p List.mem_cons_self
    rw [meas_cons, List.length_cons]
    omega
theorem _root_.NM.Nm.small {m B : Nat} {l : List Pn} (h : Nm m l) (hb : meas l ≤ B) : l.length ≤ B ∧ Ws B l := by
  refine ⟨Nat.le_trans (len_meas fun p hp => ?_) hb, fun p hp => Nat.le_trans (measP_le (h.all p hp)) (Nat.le_trans (le_meas hp) hb)⟩
  exact Nat.le_trans (List.length_pos_iff.mpr (h.all p hp).ne) (measP_le (h.all p hp))
theorem nm_stepA' {m : Nat} {acc : List Pn} {p : Pn} (h : Nm m acc) (hl : p.2.length = m + 1) : Nm m (stepA acc p) ∧ meas (stepA acc p) ≤ meas acc + p.1.length := by
  refine ⟨nm_stepA h hl, ?_⟩
  unfold stepA
  split
  · next z =>
    have lt : (timesF (p.1.length / WM.rootN p.1) (0 :: p.2.tail)).length = m + 1 := by unfold timesF; simp [hl]
    have := meas_putP h (u := p.1.take (WM.rootN p.1)) lt (by simp [timesF])
    rw [List.length_take] at this
    omega
  · omega
theorem meas_take_step {ps : List Pn} {m i : Nat} {p : Pn} (h : LenF m ps) (hp : ps[i]? = some p) : meas ((ps.take i).foldl stepN []) + measP p ≤ meas ps := by
  have a := meas_fold (ps.take i) [] (Nm.nil (m := m)) fun q hq => h q (List.mem_of_mem_take hq)
  have e : meas ([] : List Pn) = 0 := rfl
  have hi := (List.getElem?_eq_some_iff.mp hp).1
  have s : ps = ps.take i ++ (p :: ps.drop (i + 1)) := by
    conv => lhs; rw [← List.take_append_drop i ps]
    rw [← List.getElem_cons_drop hi, (List.getElem?_eq_some_iff.mp hp).2]
  have b : meas ps = meas (ps.take i) + (measP p + meas (ps.drop (i + 1))) := by
    conv => lhs; rw [s]
    rw [meas_app, meas_cons]
  omega
section
variable {P : Program} {w : World} {K : PySem.W.Frag} {mg : Str → Option Value} {base : Heap} {C : Addr}
end
end K61

set_option Elab.async false
set_option linter.all false
set_option maxRecDepth 100000
set_option maxHeartbeats 4000000
namespace K61
open PySem PySem.Spec PyProof.Rows L2 CK SX NM
/-! ### pieces as data -/
def dF (f : F) : PyData := .tuple (f.map fun n : Nat => PyData.int (n : Nat))
def dP (p : Pn) : PyData := .tuple [.str (S p.1), dF p.2]
theorem eqvAll_nats : ∀ f g : F, PyData.eqvAll (f.map fun n : Nat => PyData.int (n : Nat)) (g.map fun n : Nat => PyData.int (n : Nat)) = decide (f = g)
  | [], [] => by simp [PyData.eqvAll]
  | [], _ :: _ => by simp [PyData.eqvAll]
  | _ :: _, [] => by simp [PyData.eqvAll]
  | x :: f, y :: g => by
    rw [List.map_cons, List.map_cons, PyData.eqvAll, eqvAll_nats f g]
    simp [PyData.eqv, Bool.beq_eq_decide_eq]
    by_cases h : x = y
    · subst h
      simp
    · have h' : ¬ ((x : Int) = (y : Int)) := by omega
      simp [h, h']
theorem eqv_dP (p q : Pn) : PyData.eqv (dP p) (dP q) = decide (p = q) := by
  obtain ⟨a, f⟩ := p
  obtain ⟨b, g⟩ := q
  unfold dP dF
  simp only [PyData.eqv, PyData.eqvAll, eqvAll_nats, Bool.and_true]
  have e : (S a == S b) = decide (a = b) := S_beq_eq
  simp only [e]
  by_cases h1 : a = b <;> by_cases h2 : f = g <;> simp [h1, h2]
theorem eqvAll_dP : ∀ a b : List Pn, PyData.eqvAll (a.map dP) (b.map dP) = decide (a = b)
  | [], [] => by simp [PyData.eqvAll]
  | [], _ :: _ => by simp [PyData.eqvAll]
  | _ :: _, [] => by simp [PyData.eqvAll]
  | x :: f, y :: g => by
    rw [List.map_cons, List.map_cons, PyData.eqvAll, eqvAll_dP f g, eqv_dP]
    by_cases h : x = y <;> simp [h]
theorem eqv_dPs (a b : List Pn) : PyData.eqv (.list (a.map dP)) (.list (b.map dP)) = decide (a = b) := by
  rw [← eqvAll_dP]
  simp [PyData.eqv]
theorem str_low {w : List Nat} (h : Low w) : PyData.strOk (S w) = true := by
  unfold PyData.strOk
  rw [← Array.all_toList, List.all_eq_true]
  exact fun c hc => decide_eq_true (by have := h c hc; omega)
theorem lay_nats : ∀ f : F, PyData.canLayAll0 (f.map fun n : Nat => PyData.int (n : Nat)) = true
  | [] => by simp [PyData.canLayAll0]
  | n :: ns => by
    rw [List.map_cons, PyData.canLayAll0, lay_nats ns]
    simp [PyData.canLay0]
theorem deep_nats : ∀ f : F, PyData.depthAll (f.map fun n : Nat => PyData.int (n : Nat)) = 0
  | [] => by simp [PyData.depthAll]
  | n :: ns => by
    rw [List.map_cons, PyData.depthAll, deep_nats ns]
    simp [PyData.depth]
theorem lay_dP {p : Pn} (h : Low p.1) : (dP p).canLay0 = true := by simp [dP, dF, PyData.canLay0, PyData.canLayAll0, str_low h, lay_nats]
theorem deep_dP (p : Pn) : (dP p).depth = 2 := by simp [dP, dF, PyData.depth, PyData.depthAll, deep_nats]
theorem lay_dPs : ∀ ps : List Pn, (∀ p ∈ ps, Low p.1) → PyData.canLayAll0 (ps.map dP) = true
  | [], _ => by simp [PyData.canLayAll0]
  | p :: r, h => by
    rw [List.map_cons, PyData.canLayAll0, lay_dPs r fun q hq => h q (List.mem_cons_of_mem _ hq), lay_dP (h p List.mem_cons_self)]
    rfl
theorem deep_dPs : ∀ ps : List Pn, PyData.depthAll (ps.map dP) ≤ 2
  | [] => by simp [PyData.depthAll]
  | p :: r => by
    have := deep_dPs r
    rw [List.map_cons, PyData.depthAll, deep_dP]
    omega
theorem shaped_dPs {ps : List Pn} (h : ∀ p ∈ ps, Low p.1) : SeqAt.shaped (.list (ps.map dP)) = true := by
  unfold SeqAt.shaped
  rw [PyData.canLay0, lay_dPs ps h, PyData.depth]
  have := deep_dPs ps
  rw [decide_eq_true (by omega)]
  rfl
section
variable {K : PySem.W.Frag} {H : Hp}
theorem dpAll_nats : ∀ f : F, DpAll K H (f.map fun n : Nat => V.int (n : Nat)) (f.map fun n : Nat => PyData.int (n : Nat))
  | [] => .nil
  | n :: ns => .cons (.int _) (dpAll_nats ns)
theorem dp_FT {a : Addr} {f : F} (h : FT H a f) : Dp K H (.ref a) (dF f) := .tup (.inl (.inl h)) (dpAll_nats f)
theorem dp_PC {a : Addr} {p : Pn} (h : PC H a p) : Dp K H (.ref a) (dP p) := by
  obtain ⟨fa, h1, h2⟩ := h
  exact .tup (.inl (.inl h1)) (.cons (.str _) (.cons (dp_FT h2) .nil))
theorem dpAll_Pcs {vs : List V} {ps : List Pn} (h : Pcs H vs ps) : DpAll K H vs (ps.map dP) := by
  induction h with
  | nil => exact .nil
  | cons e _ ih => exact .cons (dp_PC e) ih
theorem dp_PL {l : Addr} {ps : List Pn} (h : PL H l ps) : Dp K H (.ref l) (.list (ps.map dP)) := by
  obtain ⟨vs, e, p⟩ := h
  exact .lst (.inl (.inl e)) (dpAll_Pcs p)
end
/-! ### letters stay letters -/
def LowP (ps : List Pn) : Prop := ∀ p ∈ ps, Low p.1
theorem low_app {a b : List Nat} (h : Low a) (g : Low b) : Low (a ++ b) := fun c hc => (List.mem_append.mp hc).elim (h c) (g c)
theorem low_take {a : List Nat} (h : Low a) (n : Nat) : Low (a.take n) := fun c hc => h c (List.mem_of_mem_take hc)
theorem low_drop {a : List Nat} (h : Low a) (n : Nat) : Low (a.drop n) := fun c hc => h c (List.mem_of_mem_drop hc)
theorem low_pw {a : List Nat} (h : Low a) : ∀ n, Low (WM.pw a n)
  | 0 => fun c hc => absurd hc List.not_mem_nil
  | n + 1 => by rw [WM.pw_succ]; exact low_app h (low_pw h n)
theorem low_rotR {u : List Nat} (h : Low u) (k : Nat) : Low (rotR u k) := low_app (low_drop h _) (low_take h _)
theorem lowP_joinF {acc : List Pn} {z : WM.W} {m : Nat} (h : LowP acc) (hz : Low z) : LowP (joinF acc z m) := fun p hp => by
  rcases mem_joinF hp with x | x | ⟨q, hq, x⟩
  · exact h p x
  · rw [x]; exact hz
  · rw [x]; exact low_app (h q hq) hz
theorem lowP_pushP {acc : List Pn} {u : WM.W} {f : F} (h : LowP acc) (hu : Low u) : LowP (pushP acc u f) := fun p hp => by
  unfold pushP at hp
  split at hp
  · split at hp
    · rcases List.mem_append.mp hp with x | x
      · exact h p (mem_dropLast x)
      · rw [List.mem_singleton.mp x]; exact hu
    · rcases List.mem_append.mp hp with x | x
      · exact h p x
      · rw [List.mem_singleton.mp x]; exact hu
  · rcases List.mem_append.mp hp with x | x
    · exact h p x
    · rw [List.mem_singleton.mp x]; exact hu
theorem low_nil : Low [] := fun c hc => absurd hc List.not_mem_nil
theorem lowP_putP {acc : List Pn} {u : WM.W} {f : F} (h : LowP acc) (hu : Low u) : LowP (putP acc u f) := by
  unfold putP
  split
  · next q hq =>
    split
    · exact lowP_joinF (lowP_pushP h hu) low_nil
    · have lq := h q (List.mem_of_getLast? hq)
      exact lowP_joinF (lowP_pushP (lowP_joinF (fun p hp => h p (mem_dropLast hp)) (low_take lq _)) (low_rotR hu _)) (low_drop lq _)
  · exact lowP_joinF (lowP_pushP h hu) low_nil
theorem lowP_fold : ∀ (ps acc : List Pn), LowP acc → LowP ps → LowP (ps.foldl stepN acc)
  | [], _, h, _ => h
  | p :: r, acc, h, hp => lowP_fold r _ (by
      have lp := hp p List.mem_cons_self
      have hA : LowP (stepA acc p) := by
        unfold stepA
        split
        · exact lowP_putP h (low_take lp _)
        · exact h
      show LowP (stepB (stepA acc p) p)
      unfold stepB
      split
      · exact lowP_joinF hA (low_pw lp _)
      · exact hA) fun q hq => hp q (List.mem_cons_of_mem _ hq)
theorem lowP_normL {ps : List Pn} (h : LowP ps) : LowP (normL ps) := lowP_fold ps [] (fun p hp => absurd hp List.not_mem_nil) h
end K61

set_option Elab.async false
set_option linter.all false
set_option maxRecDepth 100000
set_option maxHeartbeats 4000000
namespace K61
open PySem PySem.Spec PyProof.Rows L2 CK SX NM
theorem sum_meas : ∀ ps : List Pn, (ps.map fun p => ((measP p : Nat) : Int)).sum = ((meas ps : Nat) : Int)
  | [] => rfl
  | p :: r => by
    rw [List.map_cons, List.sum_cons, sum_meas r, meas_cons, Int.natCast_add]
/-- a value that is a piece, or one of the wrong ones that are met -/
inductive PV (H : Hp) (m : Nat) : V → Bool → Prop
  | good {a : Addr} {p : Pn} : PC H a p → p.2.length = m + 1 → p.1.length ≤ 2000 → Low p.1 → PV H m (.ref a) true
  | non : PV H m .non false
  | lst {a : Addr} {xs : List V} : H a = some (.lst xs) → PV H m (.ref a) false
  | long {a fa : Addr} {z : List Nat} : H a = some (.tup [.str (S z), .ref fa]) → 2000 < z.length → z.length ≤ 1000000 → Low z → PV H m (.ref a) false
theorem PV.same {H H' : Hp} {m : Nat} {v : V} {b : Bool} (h : PV H m v b) (s : Same H H') : PV H' m v b := by
  cases h with
  | good h1 h2 h3 h4 => exact .good (h1.mono (tup_same s)) h2 h3 h4
  | non => exact .non
  | lst h => exact .lst (s _ _ h)
  | long h1 h2 h3 h4 => exact .long (s _ _ h1) h2 h3 h4
section
variable {P : Program} {w : World} {K : PySem.W.Frag} {mg : Str → Option Value} {base : Heap} {C : Addr}
end
end K61

set_option Elab.async false
set_option linter.all false
set_option maxRecDepth 100000
set_option maxHeartbeats 4000000
namespace K61
open PySem PySem.Spec PyProof.Rows L2 CK SX NM
/-- a list of pieces, as the program lets it -/
structure GL (H : Hp) (m : Nat) (l : Addr) (ps : List Pn) : Prop where
  at_ : PL H l ps
  len : LenF m ps
  ws : Ws 2000 ps
  low : LowP ps
  bf : ∀ p ∈ ps, Bf p.2
  few : ps.length ≤ 5000
theorem GL.same {H H' : Hp} {m : Nat} {l : Addr} {ps : List Pn} (h : GL H m l ps) (s : Same H H') : GL H' m l ps := ⟨h.at_.same s, h.len, h.ws, h.low, h.bf, h.few⟩
inductive PLV (H : Hp) (m : Nat) : V → Bool → Prop
  | tup {a : Addr} {xs : List V} : H a = some (.tup xs) → PLV H m (.ref a) false
  | bad {l : Addr} {vs : List V} {bs : List Bool} : H l = some (.lst vs) → vs.length ≤ 5000 → bs.length = vs.length → (∀ (i : Nat) (v : V) (b : Bool), vs[i]? = some v → bs[i]? = some b → PV H m v b) → bs.all id = false → PLV H m (.ref l) false
  | good {l : Addr} {ps : List Pn} : GL H m l ps → PLV H m (.ref l) (decide (meas ps ≤ 2000))
theorem small1000000 {n : Nat} (h : n ≤ 1000000) : n < sizeLine := by rw [sizeLine_eq]; omega
theorem range_bools (bs : List Bool) : (List.range bs.length).map (fun i => V.bl (bs.getD i false)) = bs.map V.bl := by
  refine List.ext_getElem? fun i => ?_
  by_cases h : i < bs.length
  · rw [List.getElem?_map, List.getElem?_range h, List.getElem?_map, List.getElem?_eq_getElem h]
    show some (V.bl (bs.getD i false)) = some (V.bl bs[i])
    rw [List.getD_eq_getElem?_getD, List.getElem?_eq_getElem h]
    rfl
  · rw [List.getElem?_eq_none (by simp; omega), List.getElem?_eq_none (by simp; omega)]
section
variable {P : Program} {w : World} {K : PySem.W.Frag} {mg : Str → Option Value} {base : Heap} {C : Addr}
end
end K61

set_option Elab.async false
set_option linter.all false
set_option maxRecDepth 100000
set_option maxHeartbeats 4000000
namespace K61
open PySem PySem.Spec PyProof.Rows L2 CK SX NM
section
variable {P : Program} {w : World} {K : PySem.W.Frag} {mg : Str → Option Value} {base : Heap} {C : Addr}
/-! ### the law's own defs -/
theorem fm0 {i j : Int} (h : 0 < j) : 0 ≤ i.fmod j := Int.fmod_nonneg_of_pos i h
theorem fm1 {i j : Int} (h : 0 < j) : i.fmod j < j := Int.fmod_lt_of_pos i h
theorem ab {i : Int} {k : Nat} (h0 : 0 ≤ i) (h : i < 2 ^ k) : i.natAbs < 2 ^ k := by
  have e : ((2 ^ k : Nat) : Int) = 2 ^ k := by simp
  omega
def sp_hash : Sp := fun vs H Q _ => ∃ s i : Int, vs = [.int s, .int i] ∧ 0 ≤ s ∧ s < 2 ^ 31 ∧ 0 ≤ i ∧ i < 2 ^ 41 ∧ ∀ r : Int, 0 ≤ r → r < 2 ^ 31 → Q (.int r) H
theorem c_law_hash (T : Txt K mg C) : C8.Cal P w K mg base 1 "_law_hash" sp_hash [] := by
  refine calF T.d_law_hash sc_law_hash (fun vs H Q E h => ?_) (fun f cdv A outer s H vs Q E hr h => ?_)
  · obtain ⟨_, _, rfl, _⟩ := h; rfl
  · obtain ⟨z, i, rfl, h0, h1, h2, h3, q⟩ := h
    refine ⟨_, (pss_cons (ps_set (i := 2) sc_law_hash.nd rfl (Or.inl rfl) (pe_op op_modN (pe_callTy call_int1 (by rfl) T.m_int (by decide +kernel) (pa_cons (pe_op op_add (pe_op op_add (pe_op op_add (pe_op op_mulW (pv 0) pe_int) (pe_op op_mulW (pe_op op_mulW pe_int (pv 1)) (pv 1))) (pe_op op_mulW pe_int (pv 1))) pe_int) pa_nil)) pe_int))
    (pss_cons (ps_set (i := 2) sc_law_hash.nd rfl (Or.inl rfl) (pe_op op_modN (pe_callTy call_int1 (by rfl) T.m_int (by decide +kernel) (pa_cons (pe_op op_add (pe_op op_add (pe_op op_mulW (pv 2) (pv 2)) (pe_op op_mulW pe_int (pv 1))) pe_int) pa_nil)) pe_int))
    (pss_one (ps_ret (pe_op op_modN (pe_callTy call_int1 (by rfl) T.m_int (by decide +kernel) (pa_cons (pe_op op_mulW (pv 2) pe_int) pa_nil)) pe_int))))), ?_⟩
    have a1 : z.natAbs < 2 ^ 100 := ab h0 (by omega)
    have a2 : i.natAbs < 2 ^ 100 := ab h2 (by omega)
    have a3 : ((27644437 : Int)).natAbs < 2 ^ 100 := by decide
    have a4 := wide_lt a3 a2
    refine ⟨_, rfl, z, _, rfl, rfl, wide_mul a1 (show ((1140671 : Int)).natAbs < 2 ^ 100 by decide) (by decide) (by decide) (by decide), ?_⟩
    refine ⟨_, rfl, _, i, rfl, rfl, wide_mul a3 a2 (by decide) (by decide) (by decide), _, rfl, _, i, rfl, rfl, wide_mul a4 a2 (by decide) (by decide) (by decide), _, _, rfl, rfl, ?_⟩
    refine ⟨_, rfl, _, i, rfl, rfl, wide_mul (show ((131 : Int)).natAbs < 2 ^ 100 by decide) a2 (by decide) (by decide) (by decide), _, _, rfl, rfl, _, _, rfl, rfl, .inl ⟨_, rfl, _, _, rfl, rfl, (by decide : (2147483629 : Int) ≠ 0), ?_⟩⟩
    obtain ⟨m, hm⟩ : ∃ m, (z * 1140671 + 27644437 * i * i + 131 * i + 19).fmod 2147483629 = m := ⟨_, rfl⟩
    have m0 : 0 ≤ m := by rw [← hm]; exact fm0 (by decide)
    have m1 : m < 2147483629 := by rw [← hm]; exact fm1 (by decide)
    have a5 : m.natAbs < 2 ^ 100 := ab m0 (by omega)
    refine ⟨_, rfl, _, rfl, m, m, congrArg V.int hm, congrArg V.int hm, wide_mul a5 a5 (by decide) (by decide) (by decide), ?_⟩
    refine ⟨_, rfl, _, i, rfl, rfl, wide_mul (show ((62089 : Int)).natAbs < 2 ^ 100 by decide) a2 (by decide) (by decide) (by decide), _, _, rfl, rfl, _, _, rfl, rfl, .inl ⟨_, rfl, _, _, rfl, rfl, (by decide : (2147483587 : Int) ≠ 0), ?_⟩⟩
    obtain ⟨k, hk⟩ : ∃ k, (m * m + 62089 * i + 32416187).fmod 2147483587 = k := ⟨_, rfl⟩
    have k0 : 0 ≤ k := by rw [← hk]; exact fm0 (by decide)
    have k1 : k < 2147483587 := by rw [← hk]; exact fm1 (by decide)
    have a6 : k.natAbs < 2 ^ 100 := ab k0 (by omega)
    refine ⟨_, rfl, k, _, congrArg V.int hk, rfl, wide_mul a6 (show ((48271 : Int)).natAbs < 2 ^ 100 by decide) (by decide) (by decide) (by decide), .inl ⟨_, rfl, _, _, rfl, rfl, (by decide : (2147483647 : Int) ≠ 0), ?_⟩⟩
    exact q _ (fm0 (by decide)) (Int.lt_trans (fm1 (by decide)) (by decide))
def sp_random : Sp := fun vs H Q _ => ∃ (g : Addr) (b : Int) (n : Nat), vs = [.ref g, .int b] ∧ Gn (n + 1) H g ∧ 1 ≤ b ∧ b < 2 ^ 200 ∧ ∀ (r : Int) H', SameX g H H' → Gn n H' g → 0 ≤ r → r < b → Q (.int r) H'
theorem pow32 (i : Nat) : (2 : Int) ^ (32 * (i + 1)) = 2 ^ (32 * i) * 4294967296 := by
  rw [Nat.mul_add, Int.pow_add]
  rfl
theorem pow_ge1 (i : Nat) : (1 : Int) ≤ 2 ^ i := by
  have := Int.pow_pos (n := 2) (m := i) (by decide)
  omega
theorem c_law_random (T : Txt K mg C) : C8.Cal P w K mg base 2 "_law_random" sp_random [] := by
  refine calF T.d_law_random sc_law_random (fun vs H Q E h => ?_) (fun f cdv A outer s H vs Q E hr h => ?_)
  · obtain ⟨_, _, _, rfl, _⟩ := h; rfl
  · obtain ⟨g, b, n, rfl, G, hb, hb2, q⟩ := h
    refine ⟨_, (pss_cons (ps_if (pt_cmpR op_gt (pe_ix ix_list (pv 0) pe_int (fun _ _ => rfl)) pe_int (nomark _))
    (pss_cons (ps_set (i := 2) sc_law_random.nd rfl (Or.inl rfl) (pe_op op_modN (pe_callTy call_int1 (by rfl) T.m_int (by decide +kernel) (pa_cons (pe_ix ix_list (pv 0) pe_int (fun _ _ => rfl)) pa_nil)) (pv 1)))
    (pss_cons (ps_asg (pe_op op_fdivW (pe_ix ix_list (pv 0) pe_int (fun _ _ => rfl)) (pv 1)) (pg_sub (pv 0) pe_int set_list))
    (pss_one (ps_ret (pv 2)))))
    pss_nil)
    (pss_cons (ps_set (i := 2) sc_law_random.nd rfl (Or.inl rfl) pe_int)
    (pss_cons (ps_for PassesOwn.never rfl (pi_range1 (by rfl) T.m_range (pa_cons (pe_op op_add pe_int (pe_op op_fdivW (pe_bits (pv 1)) pe_int)) pa_nil)) (pg_name (i := 3) sc_law_random.nd rfl (Or.inl rfl))
    (pss_cons (ps_asg (pe_op op_add (pe_ix ix_list (pv 0) pe_int (fun _ _ => rfl)) pe_int) (pg_sub (pv 0) pe_int set_list))
    (pss_one (ps_set (i := 2) sc_law_random.nd rfl (Or.inl rfl) (pe_op op_add (pe_op op_mulW (pv 2) pe_int) (C8.pe_c (c_law_hash T) hr (by decide) (by rfl) (pa_cons (pe_ix ix_list (pv 0) pe_int (fun _ _ => rfl)) (pa_cons (pe_ix ix_list (pv 0) pe_int (fun _ _ => rfl)) pa_nil))))))))
    (pss_one (ps_ret (pe_op op_modN (pe_callTy call_int1 (by rfl) T.m_int (by decide +kernel) (pa_cons (pv 2) pa_nil)) (pv 1))))))), ?_⟩
    obtain ⟨x, y, c, hg, x0, y0, y1, c0, c1⟩ := G
    refine ⟨_, rfl, g, _, 0, .int x, rfl, rfl, .inl (.inl hg), atI_nat (j := 0) rfl, x, 0, rfl, rfl, _, rfl, ite2 (fun e => ?_) (fun e => ?_)⟩
    · -- a digit
      refine ⟨_, rfl, g, _, 0, .int x, rfl, rfl, .inl (.inl hg), atI_nat (j := 0) rfl, .inl ⟨x, rfl, _, rfl, x, b, rfl, rfl, by omega, ?_⟩⟩
      refine ⟨_, rfl, g, _, 0, .int x, rfl, rfl, .inl (.inl hg), atI_nat (j := 0) rfl, _, rfl, x, b, rfl, rfl, wide_div (b := 200) (by omega) (ab (by omega) hb2) (by decide) (by decide), _, rfl, g, _, 0, 0, rfl, rfl, hg, rfl, ?_⟩
      exact ⟨_, rfl, q _ _ sameX_upd ⟨x / b, y, c, upd_same, Int.ediv_nonneg x0 (by omega), y0, y1, c0, by omega⟩ (fm0 (by omega)) (fm1 (by omega))⟩
    · -- by the hash
      have ib : Builtin.Int.intBits b ≤ 200 := intBits_le (ab (by omega) hb2)
      have tn : (1 + ((Builtin.Int.intBits b : Nat) : Int) / 30).toNat ≤ 7 := by omega
      refine ⟨_, rfl, b, rfl, _, _, rfl, rfl, wide_div (b := 200) (by decide) (by decide) (by decide) (by decide), _, _, rfl, rfl, _, rfl, by omega, by omega, ?_⟩
      refine for_it walk_range (fun i σ H3 => ∃ (d : Int) (y3 : Option V) (c3 : Int), σ = [some (.ref g), some (.int b), some (.int d), y3] ∧ SameX g H H3 ∧ H3 g = some (.lst [.int x, .int y, .int c3]) ∧ c3 = c + i ∧ 0 ≤ d ∧ d < 2 ^ (32 * i) ∧ i ≤ 7)
        ⟨0, none, c, rfl, .refl _ _, hg, by simp, Int.le_refl _, by decide, by decide⟩ (fun _ _ _ _ _ => True.intro) (fun i v σ H3 H4 hi p yy => ?_) fun σ H3 p => ?_
      · obtain ⟨d, y3, c3, rfl, s3, g3, ec, d0, d1, i7⟩ := p
        obtain ⟨rfl, rfl⟩ := yy
        have i6 : i ≤ 6 := by omega
        have u1 : (upd H4 g (.lst [.int x, .int y, .int (c3 + 1)])) g = some (.lst [.int x, .int y, .int (c3 + 1)]) := upd_same
        refine ⟨_, rfl, g, _, 2, .int c3, rfl, rfl, .inl (.inl g3), atI_nat (j := 2) rfl, _, _, rfl, rfl, _, rfl, g, _, 2, 2, rfl, rfl, g3, rfl, ?_⟩
        have ad : d.natAbs < 2 ^ (32 * i + 1) := ab d0 (Int.lt_of_lt_of_le d1 (by rw [Int.pow_succ]; have := pow_ge1 (32 * i); omega))
        refine ⟨_, rfl, d, _, rfl, rfl, wide_mul ad (show ((2147483587 : Int)).natAbs < 2 ^ 100 by decide) (by omega) (by decide) (by omega), ?_⟩
        refine ⟨_, rfl, g, _, 1, .int y, rfl, rfl, .inl (.inl u1), atI_nat (j := 1) rfl, _, rfl, g, _, 2, .int (c3 + 1), rfl, rfl, .inl (.inl u1), atI_nat (j := 2) rfl, y, c3 + 1, rfl, y0, y1, by omega, by omega, fun r r0 r1 => ⟨_, _, rfl, rfl, ?_⟩⟩
        refine ⟨_, _, c3 + 1, rfl, fun z o nz e => by rw [upd_ne nz]; exact s3 z o nz e, u1, by omega, by have : 0 ≤ d * 2147483587 := Int.mul_nonneg d0 (by decide); omega, ?_, by omega⟩
        rw [pow32]
        have := pow_ge1 (32 * i)
        omega
      · obtain ⟨d, y3, c3, rfl, s3, g3, ec, d0, d1, i7⟩ := p
        refine ⟨_, rfl, .inl ⟨d, rfl, _, rfl, d, b, rfl, rfl, by omega, ?_⟩⟩
        exact q _ _ s3 ⟨x, y, c3, g3, x0, y0, y1, by omega, by omega⟩ (fm0 (by omega)) (fm1 (by omega))
def sp_cell (K : PySem.W.Frag) : Sp := fun vs H Q _ => ∃ (a : Addr) (ns : List Int) (i : Nat), vs = [.ref a, .int i] ∧ SqL K H a (ns.map V.int) ∧ ∀ (r : Int) H', Same H H' → Q (.int r) H'
theorem c_law_cell (T : Txt K mg C) : C8.Cal P w K mg base 1 "_law_cell" (sp_cell K) [] := by
  refine calF T.d_law_cell sc_law_cell (fun vs H Q E h => ?_) (fun f cdv A outer s H vs Q E hr h => ?_)
  · obtain ⟨_, _, _, rfl, _⟩ := h; rfl
  · obtain ⟨a, ns, i, rfl, ha, q⟩ := h
    refine ⟨_, (pss_cons (ps_if (pt_cmpR op_lt (pv 1) (pe_callB call_len_seq (by rfl) T.m_len (by decide +kernel) (pa_cons (pv 0) pa_nil)) (nomark _))
    (pss_one (ps_ret (pe_ix ix_list (pv 0) (pv 1) (fun _ _ => rfl))))
    pss_nil)
    (pss_one (ps_ret (pe_op op_modN (pe_callB (cr_sum rfl) (by rfl) T.m_sum (by decide +kernel) (pa_cons (pe_slice sl_list (pv 0) po_none (po_some pe_int)) pa_nil)) pe_int)))), ?_⟩
    refine ⟨_, rfl, _, rfl, a, _, rfl, .inl ha, _, _, rfl, rfl, _, rfl, ite2 (fun e => ?_) (fun e => ?_)⟩
    · have e' := of_decide_eq_true e
      rw [List.length_map] at e'
      have hi : i < ns.length := by omega
      refine ⟨_, rfl, _, rfl, a, _, i, .int ns[i], rfl, rfl, ha, atI_nat ?_, q _ H (Same.refl _)⟩
      rw [List.getElem?_map, List.getElem?_eq_getElem hi]
      rfl
    · refine ⟨_, rfl, 1, rfl, a, _, rfl, ha, fun p hp => ?_⟩
      refine ⟨p, ns.take 1, rfl, .inl (.inl ?_), _, _, rfl, rfl, (by decide : (1000003 : Int) ≠ 0), q _ _ (sameNew hp)⟩
      rw [upd_same, show ((1 : Int)) = ((1 : Nat) : Int) from rfl, cutV_take, List.map_take]
def sp_generator (K : PySem.W.Frag) : Sp := fun vs H Q _ => ∃ (a : Addr) (ns : List Int) (i : Nat), vs = [.ref a, .int i] ∧ SqL K H a (ns.map V.int) ∧ i ≤ 10 ∧ ∀ g H1 H', Same H H1 → H1 g = none → Same H1 H' → Gn 100000 H' g → Q (.ref g) H'
theorem c_law_generator (T : Txt K mg C) : C8.Cal P w K mg base 2 "_law_generator" (sp_generator K) [] := by
  refine calF T.d_law_generator sc_law_generator (fun vs H Q E h => ?_) (fun f cdv A outer s H vs Q E hr h => ?_)
  · obtain ⟨_, _, _, rfl, _⟩ := h; rfl
  · obtain ⟨a, ns, i, rfl, ha, hi, q⟩ := h
    refine ⟨_, (pss_cons (ps_set (i := 2) sc_law_generator.nd rfl (Or.inl rfl) (C8.pe_c (c_law_cell T) hr (by decide) (by rfl) (pa_cons (pv 0) (pa_cons (pv 1) pa_nil))))
    (pss_one (ps_ret (pe_lst (pa_cons (pe_op op_modN (pe_callTy call_int1 (by rfl) T.m_int (by decide +kernel) (pa_cons (pe_callB (call_max2 rfl) (by rfl) T.m_max (by decide +kernel) (pa_cons (pe_op op_sub (pv 2) (pe_op op_powB pe_int pe_int)) (pa_cons pe_int pa_nil))) pa_nil)) (pe_op op_powB (pe_op op_powB pe_int pe_int) pe_int)) (pa_cons (pe_op op_modN (pe_callTy call_int1 (by rfl) T.m_int (by decide +kernel) (pa_cons (pv 2) pa_nil)) pe_int) (pa_cons (pe_op op_mulW pe_int (pv 1)) pa_nil))))))), ?_⟩
    refine ⟨_, rfl, _, rfl, a, ns, i, rfl, ha, fun r H1 s1 => ?_⟩
    refine ⟨_, rfl, _, _, rfl, rfl, ⟨by decide, by decide⟩, _, _, rfl, rfl, _, _, rfl, .inl ⟨_, rfl, _, _, rfl, rfl, ⟨by decide, by decide⟩, _, _, rfl, rfl, ⟨by decide, by decide⟩, _, _, rfl, rfl, (by decide : ((10 : Int) ^ Int.toNat 60) ^ Int.toNat 10 ≠ 0), ?_⟩⟩
    refine ⟨_, rfl, .inl ⟨_, rfl, _, _, rfl, rfl, (by decide : (2147483647 : Int) ≠ 0), ?_⟩⟩
    refine ⟨_, rfl, _, _, rfl, rfl, wide_mul (show ((1000 : Int)).natAbs < 2 ^ 100 by decide) (show ((i : Int)).natAbs < 2 ^ 100 by omega) (by decide) (by decide) (by decide), by show 3 ≤ sizeLine; decide, fun g hg => ?_⟩
    refine q g H1 _ s1 hg (sameNew hg) ⟨_, _, _, upd_same, fm0 (by decide), fm0 (by decide), Int.lt_trans (fm1 (by decide)) (by decide), by omega, by omega⟩
end
end K61

set_option Elab.async false
set_option linter.all false
set_option maxRecDepth 100000
set_option maxHeartbeats 4000000
namespace K61
open PySem PySem.Spec PyProof.Rows L2 CK SX NM
/-- a comprehension over a range that draws: what its items are is told by Pz -/
theorem lcP_draw {lo : Int} {g : Addr} {n cnt j : Nat} (Pz : V → Prop) {te : TE} {vs : List Nat} {σ : L2.St} {H1 : Hp} {D : Addr} {Qd : Hp → Prop} (hc : cnt < sizeLine) (hD : H1 D = none) (hg : Gn (n + cnt) H1 g)
    (hs : ∀ (i : Nat) (H : Hp) (R : VK), i < cnt → SameX g H1 H → Gn (n + (cnt - (i + 1)) + 1) H g → (∀ (r : V) H', SameX g H H' → Gn (n + (cnt - (i + 1))) H' g → Pz r → R r H') →
      wipe ((wipe σ vs).set j (some (.int (lo + i)))) vs = wipe σ vs ∧ te ((wipe σ vs).set j (some (.int (lo + i)))) H R)
    (hd : ∀ (H : Hp) (ns : List V), SameX g H1 H → Gn n H g → H D = some (.lst ns) → ns.length = cnt → (∀ x ∈ ns, Pz x) → Qd H) :
    ∃ W : Nat → Nat → Hp → Prop, (∃ m, W 0 m (L2.upd H1 D (.lst []))) ∧ ∀ i m H, W i m H →
      ((Itr lo cnt).stop i H ∧ Qd H) ∨ ((Itr lo cnt).go i H ∧ ∃ Nx : Hp → Prop, (∀ H', Nx H' → ∃ m', m' < m ∧ W (i + 1) m' H') ∧ ∀ x H', (Itr lo cnt).yld i H x H' → gName j x (wipe σ vs) H' fun σ2 H2 => wipe σ2 vs = wipe σ vs ∧ tYes σ2 H2 fun b H3 =>
        if b = true then te σ2 H3 fun y H4 => ∃ acc, H4 D = some (.lst acc) ∧ acc.length < sizeLine ∧ Nx (L2.upd H4 D (.lst (acc ++ [y]))) else Nx H3) := by
  have hDg := hg.ne hD
  refine lc_range (fun i H => SameX g H1 H ∧ Gn (n + (cnt - i)) H g ∧ i ≤ cnt ∧ ∃ ns : List V, H D = some (.lst ns) ∧ ns.length = i ∧ ∀ x ∈ ns, Pz x)
    ⟨sameX_new hD, hg.upd hDg, Nat.zero_le _, [], upd_same, rfl, fun x h => absurd h List.not_mem_nil⟩ (fun i H hi p => ?_) fun H p => ?_
  · obtain ⟨s, G, _, ns, hL, hl, hb⟩ := p
    have G1 : Gn (n + (cnt - (i + 1)) + 1) H g := by
      have e : n + (cnt - (i + 1)) + 1 = n + (cnt - i) := by omega
      rw [e]
      exact G
    refine hs i H _ hi s G1 fun r H' s' G' h0 => ⟨_, s' D _ hDg hL, by omega, (s.trans s').upd2 hD, G'.upd hDg, hi, ns ++ [r], upd_same, ?_, fun x hx => ?_⟩
    · rw [List.length_append, hl]
      rfl
    · rcases List.mem_append.mp hx with z | z
      · exact hb x z
      · rw [List.mem_singleton.mp z]
        exact h0
  · obtain ⟨s, G, _, ns, hL, hl, hb⟩ := p
    rw [Nat.sub_self] at G
    exact hd H ns s G hL hl hb
theorem join_one : ∀ cs : List Nat, TL.joinL [] (cs.map fun c => [c]) = cs
  | [] => rfl
  | [c] => rfl
  | c :: d :: r => by
    show [c] ++ ([] ++ TL.joinL [] ((d :: r).map fun c => [c])) = _
    rw [join_one (d :: r)]
    rfl
theorem empty_S : (Str.ofString "" : Str) = S [] := by decide +kernel
theorem join_S1 (cs : List Nat) : Txt.join (Str.ofString "") (cs.map fun c => S [c]) = S cs := by
  rw [empty_S]
  have := join_S [] (cs.map fun c => [c])
  rw [List.map_map] at this
  rw [show (cs.map fun c => S [c]) = cs.map (S ∘ fun c => [c]) from rfl, this, join_one]
theorem ones_S : ∀ {vs : List V}, (∀ v ∈ vs, ∃ c, v = V.str (S [c]) ∧ 97 ≤ c ∧ c ≤ 122) → ∃ cs : List Nat, vs = (cs.map fun c => S [c]).map V.str ∧ Low cs ∧ cs.length = vs.length
  | [], _ => ⟨[], rfl, fun c h => absurd h List.not_mem_nil, rfl⟩
  | v :: vs, h => by
    obtain ⟨c, rfl, hc⟩ := h v List.mem_cons_self
    obtain ⟨cs, rfl, lw, hl⟩ := ones_S fun u hu => h u (List.mem_cons_of_mem _ hu)
    refine ⟨c :: cs, rfl, fun d hd => ?_, by simp⟩
    rcases List.mem_cons.mp hd with z | z
    · rw [z]; exact hc
    · exact lw d z

theorem seq_nat {k n : Nat} (h : k < n) : seqIndex? (k : Int) n = some k := by
  unfold seqIndex?
  have h1 : ¬ ((k : Int) < 0) := by omega
  have h2 : (k : Int) < n := by omega
  simp only [h1, if_false]
  rw [if_pos (by simp [h2])]
  rfl
theorem map_erase {α β : Type} (f : α → β) : ∀ (l : List α) (k : Nat), (l.map f).eraseIdx k = (l.eraseIdx k).map f
  | [], _ => by simp
  | a :: l, 0 => by simp
  | a :: l, k + 1 => by
    rw [List.map_cons, List.eraseIdx_cons_succ, List.eraseIdx_cons_succ, List.map_cons, map_erase f l k]
theorem abc_S : (Str.ofString "abcdefghijklmnopqrstuvwxyz" : Str) = S (List.range' 97 26) := by decide +kernel
theorem perm_erase : ∀ {zs : List Nat} {k c : Nat}, zs[k]? = some c → List.Perm (c :: zs.eraseIdx k) zs
  | [], _, _, h => by simp at h
  | a :: l, 0, c, h => by
    cases h
    exact List.Perm.refl _
  | a :: l, k + 1, c, h => by
    rw [List.eraseIdx_cons_succ]
    exact (List.Perm.swap a c _).trans ((perm_erase (zs := l) (k := k) h).cons a)
theorem nodup_move {zs cs : List Nat} {k c : Nat} (hk : zs[k]? = some c) (h : (zs ++ cs).Nodup) : (zs.eraseIdx k ++ (cs ++ [c])).Nodup := by
  have p1 := perm_erase hk
  have p2 : List.Perm (zs.eraseIdx k ++ (cs ++ [c])) (zs ++ cs) := by
    refine List.Perm.trans ?_ (p1.append_right cs)
    rw [← List.append_assoc]
    refine List.Perm.trans (List.perm_append_comm) ?_
    exact List.Perm.refl _
  exact p2.nodup_iff.mpr h
theorem low_abc : Low (List.range' 97 26) := fun c hc => by
  rw [List.mem_range'] at hc
  obtain ⟨i, h1, h2⟩ := hc
  omega
theorem low_erase {zs : List Nat} (h : Low zs) (k : Nat) : Low (zs.eraseIdx k) := fun c hc => h c (List.mem_of_mem_eraseIdx hc)
theorem get_one {cs : List Nat} {i : Nat} {v : V} (h : (cs.map fun c => V.str (S [c]))[i]? = some v) : ∃ c, cs[i]? = some c ∧ v = V.str (S [c]) := by
  rw [List.getElem?_map] at h
  cases e : cs[i]? with
  | none => rw [e] at h; cases h
  | some c =>
    rw [e] at h
    exact ⟨c, rfl, (Option.some.inj h).symm⟩
theorem sum_ones (l : List Nat) : ((l.map fun c => S [c]).map fun x => x.length).sum = l.length := by
  induction l with
  | nil => rfl
  | cons c r ih => rw [List.map_cons, List.map_cons, List.sum_cons, ih, S_len]; simp; omega
theorem len_empty : (Str.ofString "").length = 0 := by decide +kernel
theorem nats_of : ∀ {ns : List Int}, (∀ z ∈ ns, 0 ≤ z) → ns.map V.int = (ns.map Int.toNat).map fun k : Nat => V.int (k : Nat)
  | [], _ => rfl
  | z :: r, h => by
    have h0 := h z List.mem_cons_self
    rw [List.map_cons, List.map_cons, List.map_cons, nats_of fun y hy => h y (List.mem_cons_of_mem _ hy)]
    congr 2
    omega
section
variable {P : Program} {w : World} {K : PySem.W.Frag} {mg : Str → Option Value} {base : Heap} {C : Addr}
def sp_letters : Sp := fun vs H Q _ => ∃ (g : Addr) (n : Nat), vs = [.ref g] ∧ Gn (n + 3) H g ∧ ∀ cs H', SameX g H H' → Gn n H' g → cs.length = 3 → Low cs → cs.Nodup → Q (.str (S cs)) H'
theorem c_law_letters (T : Txt K mg C) : C8.Cal P w K mg base 3 "_law_letters" sp_letters [] := by
  refine calF T.d_law_letters sc_law_letters (fun vs H Q E h => ?_) (fun f cdv A outer s H vs Q E hr h => ?_)
  · obtain ⟨_, _, rfl, _⟩ := h; rfl
  · obtain ⟨g, n, rfl, G, q⟩ := h
    refine ⟨_, (pss_cons (ps_set (i := 1) sc_law_letters.nd rfl (Or.inr rfl) (pe_callTy (call_listS rfl) (by rfl) T.m_list (by decide +kernel) (pa_cons pe_str pa_nil)))
    (pss_one (ps_ret (pe_join pe_str (pe_lc (own := [("_law_turn", 2)]) (by rfl) sc_law_letters.nd (pi_range1 (by rfl) T.m_range (pa_cons pe_int pa_nil)) (blkOk_by (N := ["_law_generator_here", "_law_left", "_law_turn"]) (sc := C8.fnScope (topS 43)) (own := [("_law_turn", 2)]) (by decide +kernel)) (fun _ _ _ _ _ => (pg_name (i := 2) sc_law_letters.nd rfl (Or.inl rfl))) (fun _ _ _ _ _ => pts_nil) (fun _ _ _ _ _ => (pe_bmB (K := K) rfl PySem.F.plainAttrs_list PySem.F.slot_list_pop PySem.F.type_list_pop mt_popAt (pv 1) (pa_cons (C8.pe_c (c_law_random T) hr (by decide) (by rfl) (pa_cons (pv 0) (pa_cons (pe_callB call_lenH (by rfl) T.m_len (by decide +kernel) (pa_cons (pv 1) pa_nil)) pa_nil))) pa_nil)))))))), ?_⟩
    refine ⟨List.range' 97 26, congrArg (fun z => [V.str z]) abc_S, by decide, fun L hL => ?_⟩
    have Lg := G.ne hL
    have s0 := sameNew (o := .lst ((List.range' 97 26).map fun c => V.str (S [c]))) hL
    refine ⟨⟨_, rfl⟩, 3, rfl, by decide, by decide, fun D hD => ?_⟩
    have G1 : Gn (n + 3) (upd H L (.lst ((List.range' 97 26).map fun c => V.str (S [c])))) g := G.upd Lg
    have Dg := G1.ne hD
    have DL : D ≠ L := fun z => by rw [z, upd_same] at hD; cases hD
    refine lc_range (fun i H2 => (∀ b o, b ≠ g → b ≠ L → (upd H L (.lst ((List.range' 97 26).map fun c => V.str (S [c])))) b = some o → H2 b = some o) ∧ Gn (n + (3 - i)) H2 g ∧ i ≤ 3 ∧ ∃ zs cs : List Nat, (H2 L = some (.lst (zs.map fun c => V.str (S [c]))) ∧ zs.length = 26 - i ∧ Low zs) ∧ H2 D = some (.lst (cs.map fun c => V.str (S [c]))) ∧ cs.length = i ∧ Low cs ∧ (zs ++ cs).Nodup)
      ⟨fun b o _ _ e => sameNew hD _ _ e, G1.upd Dg, by decide, List.range' 97 26, [], ⟨sameNew hD _ _ upd_same, by simp, low_abc⟩, upd_same, rfl, low_nil, by rw [List.append_nil]; exact List.nodup_range'⟩ (fun i H2 hi p => ?_) fun H2 p => ?_
    · obtain ⟨s2, G2, _, zs, cs, ⟨hL2, lz, lowz⟩, hD2, lc, lowc, nd⟩ := p
      have e3 : n + (3 - i) = n + (3 - (i + 1)) + 1 := by omega
      rw [e3] at G2
      have lk : (zs.map fun c => V.str (S [c])).length = 26 - i := by rw [List.length_map, lz]
      refine ⟨rfl, _, rfl, .inl ⟨rfl, _, .inl (.inl hL2)⟩, _, rfl, _, rfl, L, _, rfl, hL2, g, _, _, rfl, G2, by rw [lk]; omega, by rw [lk]; omega, fun r H3 s3 G3 r0 r1 => ?_⟩
      rw [lk] at r1
      have hL3 := s3 _ _ Lg hL2
      obtain ⟨k, rfl⟩ : ∃ k : Nat, r = k := ⟨r.toNat, by omega⟩
      have hk : k < zs.length := by omega
      have hz := List.getElem?_eq_getElem hk
      have hc := lowz _ (List.getElem_mem hk)
      generalize zs[k] = c at hz hc
      refine ⟨L, _, k, k, .str (S [c]), rfl, rfl, hL3, by omega, by omega, ?_, by rw [List.getElem?_map, hz]; rfl, ?_⟩
      · rw [lk]
        exact seq_nat (by omega)
      · refine ⟨_, by rw [upd_ne DL]; exact s3 _ _ Dg hD2, by rw [List.length_map, lc, sizeLine_eq]; omega, fun b o hb hbL eb => ?_, (G3.upd Lg).upd Dg, by omega, zs.eraseIdx k, cs ++ [c], ⟨?_, ?_, low_erase lowz k⟩, ?_, by rw [List.length_append, lc]; rfl, (low_app lowc fun d hd => by rw [List.mem_singleton.mp hd]; exact hc), nodup_move hz nd⟩
        · have hbD : b ≠ D := fun z => by rw [z, hD] at eb; cases eb
          rw [upd_ne hbD, upd_ne hbL]
          exact s3 _ _ hb (s2 _ _ hb hbL eb)
        · rw [upd_ne (Ne.symm DL), upd_same, map_erase]
        · rw [List.length_eraseIdx, if_pos hk, lz]
          omega
        · rw [upd_same, List.map_append]
          rfl
    · obtain ⟨s2, G2, _, zs, cs, ⟨hL2, lz, lowz⟩, hD2, lc, lowc, nd⟩ := p
      refine ⟨Str.ofString "", D, cs.map fun c => S [c], rfl, rfl, .inl (.inl (.inl (by rw [hD2, List.map_map]; rfl))), by rw [sum_ones, List.length_map, len_empty, lc]; decide, ?_⟩
      rw [join_S1]
      refine q cs H2 (fun b o hb eb => s2 _ _ hb (fun z => by rw [z, hL] at eb; cases eb) (s0 _ _ eb)) G2 lc lowc (List.nodup_append.mp nd).2.1
def sp_word : Sp := fun vs H Q _ => ∃ (g : Addr) (cs : List Nat) (n lo hi : Nat), vs = [.ref g, .str (S cs), .int lo, .int hi] ∧ cs ≠ [] ∧ cs.length ≤ 26 ∧ Low cs ∧ Gn (n + 10) H g ∧ lo ≤ hi ∧ hi ≤ 8 ∧
  ∀ (w : List Nat) H', SameX g H H' → Gn n H' g → lo ≤ w.length → w.length ≤ hi → Low w → Q (.str (S w)) H'
theorem c_law_word (T : Txt K mg C) : C8.Cal P w K mg base 3 "_law_word" sp_word [] := by
  refine calF T.d_law_word sc_law_word (fun vs H Q E h => ?_) (fun f cdv A outer s H vs Q E hr h => ?_)
  · obtain ⟨_, _, _, _, _, rfl, _⟩ := h; rfl
  · obtain ⟨g, cs, n, lo, hi, rfl, ne, l26, lowc, G, h1, h2, q⟩ := h
    have n0 := List.length_pos_iff.mpr ne
    refine ⟨_, (pss_cons (ps_set (i := 4) sc_law_word.nd rfl (Or.inl rfl) (pe_op op_add (pv 2) (C8.pe_c (c_law_random T) hr (by decide) (by rfl) (pa_cons (pv 0) (pa_cons (pe_op op_add (pe_op op_sub (pv 3) (pv 2)) pe_int) pa_nil)))))
    (pss_one (ps_ret (pe_join pe_str (pe_lc (own := [("_law_turn", 5)]) (by rfl) sc_law_word.nd (pi_range1 (by rfl) T.m_range (pa_cons (pv 4) pa_nil)) (blkOk_by (N := ["_law_generator_here", "_law_signs", "_law_least", "_law_most", "_law_many", "_law_turn"]) (sc := C8.fnScope (topS 44)) (own := [("_law_turn", 5)]) (by decide +kernel)) (fun _ _ _ _ _ => (pg_name (i := 5) sc_law_word.nd rfl (Or.inl rfl))) (fun _ _ _ _ _ => pts_nil) (fun _ _ _ _ _ => (pe_ix ix_str (pv 1) (C8.pe_c (c_law_random T) hr (by decide) (by rfl) (pa_cons (pv 0) (pa_cons (pe_callB call_len_str (by rfl) T.m_len (by decide +kernel) (pa_cons (pv 1) pa_nil)) pa_nil))) (fun _ _ => rfl)))))))), ?_⟩
    refine ⟨_, rfl, _, rfl, _, rfl, _, rfl, _, _, rfl, rfl, _, _, rfl, rfl, g, _, n + 9, rfl, G, by omega, by omega, fun r H1 s1 G1 r0 r1 => ?_⟩
    refine ⟨_, _, rfl, rfl, ?_⟩
    refine ⟨⟨_, rfl⟩, _, rfl, (lo : Int) + r, rfl, by omega, by omega, fun D hD => ?_⟩
    refine lcP_draw (lo := 0) (g := g) (n := n) (cnt := ((lo : Int) + r).toNat) (fun v => ∃ c, v = V.str (S [c]) ∧ 97 ≤ c ∧ c ≤ 122) (small1000 (by omega)) hD (G1.le (by omega)) (fun i H2 R hi2 s2 G2 q' => ?_) fun H3 ns s3 G3 hL hl hP => ?_
    · refine ⟨rfl, _, rfl, _, rfl, _, rfl, S cs, rfl, len_line (by omega), g, _, _, rfl, G2, by rw [S_len]; omega, by rw [S_len]; omega, fun r3 H3 s3 G3 r30 r31 => ?_⟩
      rw [S_len] at r31
      obtain ⟨k, rfl⟩ : ∃ k : Nat, r3 = k := ⟨r3.toNat, by omega⟩
      have hk : k < cs.length := by omega
      have hz := List.getElem?_eq_getElem hk
      have hc := lowc _ (List.getElem_mem hk)
      generalize cs[k] = c at hz hc
      exact ⟨S cs, _, c, rfl, rfl, len_line (by omega), atI_nat (xs := cs) hz, q' _ H3 s3 G3 ⟨c, rfl, hc⟩⟩
    · obtain ⟨ws, rfl, lw, lw2⟩ := ones_S hP
      refine ⟨Str.ofString "", D, ws.map fun c => S [c], rfl, rfl, .inl (.inl (.inl hL)), by rw [sum_ones, List.length_map, len_empty]; omega, ?_⟩
      rw [join_S1]
      exact q ws H3 (s1.trans s3) G3 (by omega) (by omega) lw
/-- numbers up to most -/
def Up (most : Nat) (f : List Nat) : Prop := ∀ n ∈ f, n ≤ most

end
end K61

set_option Elab.async false
set_option linter.all false
set_option maxRecDepth 100000
set_option maxHeartbeats 4000000
namespace K61
open PySem PySem.Spec PyProof.Rows L2 CK SX NM
def pI : List Str := ["self", "letter", "sign", "unknown", "number"]
section
variable {P : Program} {w : World} {K : PySem.W.Frag} {mg : Str → Option Value} {base : Heap} {C : Addr}
variable {f : Addr} {fd : FuncData}
abbrev FI (K : PySem.W.Frag) (f : Addr) (fd : FuncData) := FunD K "__init__" "Prices.__init__" (C8.fnArgs (inClass (topS 22) 0)) (C8.fnBody (inClass (topS 22) 0)) (C8.fnScope (inClass (topS 22) 0)) [] [("letter", .int 1), ("sign", .int 1), ("unknown", .int 1), ("number", .int 1)] f fd
theorem bI_D0 (F : FI K f fd) : ∃ ds, Vals ([.int 1, .int 1, .int 1, .int 1] : List V) ds ∧ Binds K fd pI ds := by
  refine F.binds0 1 (List.cons_ne_nil _ _) rfl fun D doc pm an cdv ct us ks l1 l2 => ?_
  match us, l1, ks, l2 with
  | [u], _, [a, b, c, d], _ =>
    exact ⟨_, _, _, _, _, _, rfl, rfl, _, _, _, _, _, _, rfl, rfl, _, _, _, _, _, _, rfl, rfl, _, _, _, _, _, _, rfl, rfl, rfl⟩
/-- the i-th of a list, and nothing -/
def at1 {α : Type} (l : List α) (i : Nat) : List α := (l.drop i).take 1
theorem at1_rel {vs : List V} {us : List Value} (h : Vals vs us) (i : Nat) : Vals (at1 vs i) (at1 us i) := by
  unfold at1
  induction h generalizing i with
  | nil => rw [List.drop_nil, List.drop_nil]; exact .nil
  | cons r t ih =>
    cases i with
    | zero => exact .cons r .nil
    | succ i => exact ih i
theorem bI_letter_sign_unknown_number (F : FI K f fd) : ∃ g, KBn K fd pI 1 ["letter", "sign", "unknown", "number"] g (fun vs zs => vs ++ (at1 zs 0 ++ (at1 zs 1 ++ (at1 zs 2 ++ (at1 zs 3))))) := by
  obtain ⟨mv, h⟩ := F.kbinds0 (ps := pI) 1 ["letter", "sign", "unknown", "number"] [] (fun us mv ws => us ++ (at1 ws 0 ++ (at1 ws 1 ++ (at1 ws 2 ++ (at1 ws 3))))) (List.cons_ne_nil _ _) (by simp) (fun r1 r2 r3 => (r1.append ((at1_rel r3 0).append ((at1_rel r3 1).append ((at1_rel r3 2).append (at1_rel r3 3)))))) fun D doc pm an cdv ct us mv ws l1 l2 l3 => by
    match us, l1, mv, l2, ws, l3 with
    | [u], _, [], _, [w0, w1, w2, w3], _ => exact rfl
  exact ⟨_, h⟩
theorem bI_number_unknown_sign_letter (F : FI K f fd) : ∃ g, KBn K fd pI 1 ["number", "unknown", "sign", "letter"] g (fun vs zs => vs ++ (at1 zs 3 ++ (at1 zs 2 ++ (at1 zs 1 ++ (at1 zs 0))))) := by
  obtain ⟨mv, h⟩ := F.kbinds0 (ps := pI) 1 ["number", "unknown", "sign", "letter"] [] (fun us mv ws => us ++ (at1 ws 3 ++ (at1 ws 2 ++ (at1 ws 1 ++ (at1 ws 0))))) (List.cons_ne_nil _ _) (by simp) (fun r1 r2 r3 => (r1.append ((at1_rel r3 3).append ((at1_rel r3 2).append ((at1_rel r3 1).append (at1_rel r3 0)))))) fun D doc pm an cdv ct us mv ws l1 l2 l3 => by
    match us, l1, mv, l2, ws, l3 with
    | [u], _, [], _, [w0, w1, w2, w3], _ => exact rfl
  exact ⟨_, h⟩
theorem bI_letter (F : FI K f fd) : ∃ g, KBn K fd pI 1 ["letter"] g (fun vs zs => vs ++ (at1 zs 0 ++ (at1 ([.int 1, .int 1, .int 1] : List V) 0 ++ (at1 ([.int 1, .int 1, .int 1] : List V) 1 ++ (at1 ([.int 1, .int 1, .int 1] : List V) 2))))) := by
  obtain ⟨mv, h⟩ := F.kbinds0 (ps := pI) 1 ["letter"] [("sign", .int 1), ("unknown", .int 1), ("number", .int 1)] (fun us mv ws => us ++ (at1 ws 0 ++ (at1 mv 0 ++ (at1 mv 1 ++ (at1 mv 2))))) (List.cons_ne_nil _ _) (by simp) (fun r1 r2 r3 => (r1.append ((at1_rel r3 0).append ((at1_rel r2 0).append ((at1_rel r2 1).append (at1_rel r2 2)))))) fun D doc pm an cdv ct us mv ws l1 l2 l3 => by
    match us, l1, mv, l2, ws, l3 with
    | [u], _, [m0, m1, m2], _, [w0], _ => exact ⟨_, _, _, _, _, _, rfl, rfl, _, _, _, _, _, _, rfl, rfl, _, _, _, _, _, _, rfl, rfl, rfl⟩
  exact ⟨_, h⟩
theorem bI_sign (F : FI K f fd) : ∃ g, KBn K fd pI 1 ["sign"] g (fun vs zs => vs ++ (at1 ([.int 1, .int 1, .int 1] : List V) 0 ++ (at1 zs 0 ++ (at1 ([.int 1, .int 1, .int 1] : List V) 1 ++ (at1 ([.int 1, .int 1, .int 1] : List V) 2))))) := by
  obtain ⟨mv, h⟩ := F.kbinds0 (ps := pI) 1 ["sign"] [("letter", .int 1), ("unknown", .int 1), ("number", .int 1)] (fun us mv ws => us ++ (at1 mv 0 ++ (at1 ws 0 ++ (at1 mv 1 ++ (at1 mv 2))))) (List.cons_ne_nil _ _) (by simp) (fun r1 r2 r3 => (r1.append ((at1_rel r2 0).append ((at1_rel r3 0).append ((at1_rel r2 1).append (at1_rel r2 2)))))) fun D doc pm an cdv ct us mv ws l1 l2 l3 => by
    match us, l1, mv, l2, ws, l3 with
    | [u], _, [m0, m1, m2], _, [w0], _ => exact ⟨_, _, _, _, _, _, rfl, rfl, _, _, _, _, _, _, rfl, rfl, _, _, _, _, _, _, rfl, rfl, rfl⟩
  exact ⟨_, h⟩
theorem bI_unknown (F : FI K f fd) : ∃ g, KBn K fd pI 1 ["unknown"] g (fun vs zs => vs ++ (at1 ([.int 1, .int 1, .int 1] : List V) 0 ++ (at1 ([.int 1, .int 1, .int 1] : List V) 1 ++ (at1 zs 0 ++ (at1 ([.int 1, .int 1, .int 1] : List V) 2))))) := by
  obtain ⟨mv, h⟩ := F.kbinds0 (ps := pI) 1 ["unknown"] [("letter", .int 1), ("sign", .int 1), ("number", .int 1)] (fun us mv ws => us ++ (at1 mv 0 ++ (at1 mv 1 ++ (at1 ws 0 ++ (at1 mv 2))))) (List.cons_ne_nil _ _) (by simp) (fun r1 r2 r3 => (r1.append ((at1_rel r2 0).append ((at1_rel r2 1).append ((at1_rel r3 0).append (at1_rel r2 2)))))) fun D doc pm an cdv ct us mv ws l1 l2 l3 => by
    match us, l1, mv, l2, ws, l3 with
    | [u], _, [m0, m1, m2], _, [w0], _ => exact ⟨_, _, _, _, _, _, rfl, rfl, _, _, _, _, _, _, rfl, rfl, _, _, _, _, _, _, rfl, rfl, rfl⟩
  exact ⟨_, h⟩
theorem bI_number (F : FI K f fd) : ∃ g, KBn K fd pI 1 ["number"] g (fun vs zs => vs ++ (at1 ([.int 1, .int 1, .int 1] : List V) 0 ++ (at1 ([.int 1, .int 1, .int 1] : List V) 1 ++ (at1 ([.int 1, .int 1, .int 1] : List V) 2 ++ (at1 zs 0))))) := by
  obtain ⟨mv, h⟩ := F.kbinds0 (ps := pI) 1 ["number"] [("letter", .int 1), ("sign", .int 1), ("unknown", .int 1)] (fun us mv ws => us ++ (at1 mv 0 ++ (at1 mv 1 ++ (at1 mv 2 ++ (at1 ws 0))))) (List.cons_ne_nil _ _) (by simp) (fun r1 r2 r3 => (r1.append ((at1_rel r2 0).append ((at1_rel r2 1).append ((at1_rel r2 2).append (at1_rel r3 0)))))) fun D doc pm an cdv ct us mv ws l1 l2 l3 => by
    match us, l1, mv, l2, ws, l3 with
    | [u], _, [m0, m1, m2], _, [w0], _ => exact ⟨_, _, _, _, _, _, rfl, rfl, _, _, _, _, _, _, rfl, rfl, _, _, _, _, _, _, rfl, rfl, rfl⟩
  exact ⟨_, h⟩
theorem bI_sign_number (F : FI K f fd) : ∃ g, KBn K fd pI 1 ["sign", "number"] g (fun vs zs => vs ++ (at1 ([.int 1, .int 1] : List V) 0 ++ (at1 zs 0 ++ (at1 ([.int 1, .int 1] : List V) 1 ++ (at1 zs 1))))) := by
  obtain ⟨mv, h⟩ := F.kbinds0 (ps := pI) 1 ["sign", "number"] [("letter", .int 1), ("unknown", .int 1)] (fun us mv ws => us ++ (at1 mv 0 ++ (at1 ws 0 ++ (at1 mv 1 ++ (at1 ws 1))))) (List.cons_ne_nil _ _) (by simp) (fun r1 r2 r3 => (r1.append ((at1_rel r2 0).append ((at1_rel r3 0).append ((at1_rel r2 1).append (at1_rel r3 1)))))) fun D doc pm an cdv ct us mv ws l1 l2 l3 => by
    match us, l1, mv, l2, ws, l3 with
    | [u], _, [m0, m1], _, [w0, w1], _ => exact ⟨_, _, _, _, _, _, rfl, rfl, _, _, _, _, _, _, rfl, rfl, rfl⟩
  exact ⟨_, h⟩
end
end K61

set_option Elab.async false
set_option linter.all false
set_option maxRecDepth 100000
set_option maxHeartbeats 4000000
namespace K61
open PySem PySem.Spec PyProof.Rows L2 CK SX NM
theorem tnext_eq (D : Ends) (σ : L2.St) (H : Hp) : tNext D σ H = D.nx σ H := rfl
theorem gname_eq (i : Nat) (v : V) (σ : L2.St) (H : Hp) (Q : L2.St → Hp → Prop) : gName i v σ H Q = Q (σ.set i (some v)) H := rfl
/-! the fields -/
def FP (a b c d : Nat) : List (Str × V) := [("letter", .int (a : Nat)), ("sign", .int (b : Nat)), ("unknown", .int (c : Nat)), ("number", .int (d : Nat))]
theorem n_ls : ¬ (("letter" : Str) = "sign") := by decide +kernel
theorem n_lu : ¬ (("letter" : Str) = "unknown") := by decide +kernel
theorem n_ln : ¬ (("letter" : Str) = "number") := by decide +kernel
theorem n_su : ¬ (("sign" : Str) = "unknown") := by decide +kernel
theorem n_sn : ¬ (("sign" : Str) = "number") := by decide +kernel
theorem n_un : ¬ (("unknown" : Str) = "number") := by decide +kernel
theorem put_new {x : Str} {v : V} : ∀ {fs : List (Str × V)}, (∀ q ∈ fs, ¬ q.1 = x) → putF x v fs = fs ++ [(x, v)]
  | [], _ => rfl
  | (k, u) :: fs, h => by
    show (if k = x then (k, v) :: fs else (k, u) :: putF x v fs) = _
    rw [if_neg (h (k, u) List.mem_cons_self), put_new fun r hr => h r (List.mem_cons_of_mem _ hr)]
    rfl
def F1 (a : Nat) : List (Str × V) := [("letter", .int (a : Nat))]
def F2 (a b : Nat) : List (Str × V) := [("letter", .int (a : Nat)), ("sign", .int (b : Nat))]
def F3 (a b c : Nat) : List (Str × V) := [("letter", .int (a : Nat)), ("sign", .int (b : Nat)), ("unknown", .int (c : Nat))]
theorem put_1 (a : Nat) : putF "letter" (V.int (a : Nat)) [] = F1 a := rfl
theorem put_2 (a b : Nat) : putF "sign" (V.int (b : Nat)) (F1 a) = F2 a b := put_new fun q hq => by
  rw [List.mem_singleton.mp hq]; exact n_ls
theorem put_3 (a b c : Nat) : putF "unknown" (V.int (c : Nat)) (F2 a b) = F3 a b c := put_new fun q hq => by
  rcases List.mem_cons.mp hq with rfl | hq
  · exact n_lu
  · rw [List.mem_singleton.mp hq]; exact n_su
theorem put_4 (a b c d : Nat) : putF "number" (V.int (d : Nat)) (F3 a b c) = FP a b c d := put_new fun q hq => by
  rcases List.mem_cons.mp hq with rfl | hq
  · exact n_ln
  · rcases List.mem_cons.mp hq with rfl | hq
    · exact n_sn
    · rw [List.mem_singleton.mp hq]; exact n_un
theorem fp_n (a b c d : Nat) : (FP a b c d).lookup ("number" : Str) = some (.int (d : Nat)) := by rw [← put_4, lookup_putF, if_pos rfl]
theorem fp_u (a b c d : Nat) : (FP a b c d).lookup ("unknown" : Str) = some (.int (c : Nat)) := by rw [← put_4, lookup_putF, if_neg n_un, ← put_3, lookup_putF, if_pos rfl]
theorem fp_s (a b c d : Nat) : (FP a b c d).lookup ("sign" : Str) = some (.int (b : Nat)) := by rw [← put_4, lookup_putF, if_neg n_sn, ← put_3, lookup_putF, if_neg n_su, ← put_2, lookup_putF, if_pos rfl]
theorem fp_l (a b c d : Nat) : (FP a b c d).lookup ("letter" : Str) = some (.int (a : Nat)) := by rw [← put_4, lookup_putF, if_neg n_ln, ← put_3, lookup_putF, if_neg n_lu, ← put_2, lookup_putF, if_neg n_ls, ← put_1, lookup_putF, if_pos rfl]
theorem fp_no (a b c d : Nat) {m : Str} (h1 : ¬ m = "letter") (h2 : ¬ m = "sign") (h3 : ¬ m = "unknown") (h4 : ¬ m = "number") : (FP a b c d).lookup m = none := by
  rw [← put_4, lookup_putF, if_neg h4, ← put_3, lookup_putF, if_neg h3, ← put_2, lookup_putF, if_neg h2, ← put_1, lookup_putF, if_neg h1]
  rfl
/-- prices at p, of the class at C -/
def PrO (C : Addr) (H : Hp) (p : Addr) (a b c d : Nat) : Prop := ∃ dx, H p = some (.ins C dx (FP a b c d))
theorem PrO.same {C : Addr} {H H' : Hp} {p : Addr} {a b c d : Nat} (h : PrO C H p a b c d) (s : Same H H') : PrO C H' p a b c d := by
  obtain ⟨dx, e⟩ := h
  exact ⟨dx, s _ _ e⟩
theorem isC_nat (z : Nat) : isC (V.int (z : Nat)) = true := by
  show decide ((0 : Int) ≤ ((z : Nat) : Int)) = true
  exact decide_eq_true (by omega)
section
variable {P : Program} {w : World} {K : PySem.W.Frag} {mg : Str → Option Value} {base : Heap} {C : Addr} {f : Addr} {fd : FuncData}
def sp_init (C : Addr) : Sp := fun vs H Q _ => ∃ (p dx : Addr) (a b c d : Nat), vs = [.ref p, .int a, .int b, .int c, .int d] ∧ H p = some (.ins C dx []) ∧ 1 ≤ a ∧ ∀ H', SameX p H H' → PrO C H' p a b c d → Q .non H'
theorem ok_init (T : Txt K mg C) (F : FI K f fd) : FnOk P w K mg base C8.CX0 3 f fd pI (sp_init C) := by
  refine C8.fn0 (fun_of F) sc_Prices___init__ (fun vs H Q E h => ?_) (fun cdv A outer s H vs Q E hr h => ?_)
  · obtain ⟨_, _, _, _, _, _, rfl, _⟩ := h; rfl
  · obtain ⟨p, dx, a, b, c, d, rfl, hp, h1, q⟩ := h
    have cl := T.k_Prices.ins.cl
    refine ⟨_, (pss_cons (ps_if (PW.pt (pw_or (pt_not (pt_val (C8.pe_c (c_is_whole T) hr (by decide) (by rfl) (pa_cons (pv 1) pa_nil)))) (pw_or1 (pt_cmpR op_lt (pv 1) pe_int (nomark _)))))
    (pss_one ps_never)
    pss_nil)
    (pss_cons (ps_for PassesOwn.never rfl (pi_list (pe_lst (pa_cons (pv 2) (pa_cons (pv 3) (pa_cons (pv 4) pa_nil))))) (pg_name (i := 5) sc_Prices___init__.nd rfl (Or.inl rfl))
    (pss_one (ps_if (pt_not (pt_val (C8.pe_c (c_is_count T) hr (by decide) (by rfl) (pa_cons (pv 5) pa_nil))))
    (pss_one ps_never)
    pss_nil)))
    (pss_cons (ps_fld (pv 0) (pv 1) rfl)
    (pss_cons (ps_fld (pv 0) (pv 2) rfl)
    (pss_cons (ps_fld (pv 0) (pv 3) rfl)
    (pss_one (ps_fld (pv 0) (pv 4) rfl))))))), ?_⟩
    refine ⟨_, rfl, _, rfl, .int _, _, rfl, iteF ?_⟩
    refine ⟨_, rfl, _, _, rfl, rfl, false, congrArg V.bl (decide_eq_false (by omega)), iteF ?_⟩
    rw [tnext_eq]
    refine ⟨_, rfl, _, rfl, _, rfl, by show 3 ≤ sizeLine; decide, fun D nD => ?_⟩
    have sD := sameNew (o := .lst [.int (b : Nat), .int (c : Nat), .int (d : Nat)]) nD
    have hD : upd H D (.lst [.int (b : Nat), .int (c : Nat), .int (d : Nat)]) D = some (.lst (([b, c, d] : List Nat).map fun n : Nat => V.int (n : Nat))) := upd_same
    have hp1 := sD _ _ hp
    generalize upd H D (.lst [.int (b : Nat), .int (c : Nat), .int (d : Nat)]) = H1 at sD hD hp1
    refine ⟨D, rfl, ⟨_, .inl (.inl hD)⟩, ?_⟩
    refine for_it (walk_list (K := K) (a := D) (xs := ([b, c, d] : List Nat).map fun n : Nat => V.int (n : Nat))) (fun i σ H' => H' = H1 ∧ ∃ y5, σ = [some (.ref p), some (.int (a : Nat)), some (.int (b : Nat)), some (.int (c : Nat)), some (.int (d : Nat)), y5]) ⟨rfl, _, rfl⟩ (fun i σ H' _ p => by rw [p.1]; exact .inl (.inl hD)) (fun i v σ H' H'' hi p y => ?_) fun σ H' p => ?_
    · obtain ⟨rfl, y5, rfl⟩ := p
      obtain ⟨rfl, hx⟩ := y
      obtain ⟨z, _, _, rfl⟩ := get_nat hx
      refine ⟨_, rfl, _, rfl, .int _, _, rfl, ?_⟩
      rw [isC_nat]
      exact iteF ⟨rfl, _, rfl⟩
    · obtain ⟨rfl, y5, rfl⟩ := p
      refine ⟨_, rfl, _, rfl, p, C, dx, _, rfl, hp1, cl, T.f_letter, by show 0 < 1000; decide, ?_⟩
      refine ⟨_, rfl, _, rfl, p, C, dx, _, rfl, upd_same, cl, T.f_sign, by show 1 < 1000; decide, ?_⟩
      refine ⟨_, rfl, _, rfl, p, C, dx, _, rfl, upd_same, cl, T.f_unknown, by rw [put_1, put_2]; show 2 < 1000; decide, ?_⟩
      refine ⟨_, rfl, _, rfl, p, C, dx, _, rfl, upd_same, cl, T.f_number, by rw [put_1, put_2, put_3]; show 3 < 1000; decide, ?_⟩
      refine q _ (fun x o hx e => ?_) ⟨dx, ?_⟩
      · rw [upd_ne hx, upd_ne hx, upd_ne hx, upd_ne hx]
        exact sD _ _ e
      · rw [upd_same, put_1, put_2, put_3, put_4]
end
end K61

set_option Elab.async false
set_option linter.all false
set_option maxRecDepth 100000
set_option maxHeartbeats 4000000
namespace K61
open PySem PySem.Spec PyProof.Rows L2 CK SX NM
theorem mk_pr {C : Addr} {Hc : Hp} {x dx : Addr} {a b c d : Nat} {R : V → Hp → Prop} {E : XK} (nx : Hc x = none) (ndx : Hc dx = none) (nex : dx ≠ x) (h1 : 1 ≤ a)
    (q : ∀ H', Same Hc H' → PrO C H' x a b c d → R .non H') : sp_init C [.ref x, .int a, .int b, .int c, .int d] (upd (upd Hc dx (.own x)) x (.ins C dx [])) R E := by
  refine ⟨x, dx, a, b, c, d, rfl, upd_same, h1, fun H1 s1 k1 => q H1 (fun y o e => ?_) k1⟩
  have ny : y ≠ x := fun z => by rw [z, nx] at e; cases e
  refine s1 _ _ ny ?_
  rw [upd_ne ny, upd_ne (fun z => by rw [z, ndx] at e; cases e)]
  exact e
/-! what a piece adds -/
def fx (p : Pn) : Bool := decide (p.2 = one1 (p.2.length - 1))
def e0 (p : Pn) : Nat := p.1.length
def e1 (p : Pn) : Nat := if fx p then 0 else 1
def e2 (p : Pn) : Nat := if fx p then 0 else (p.2.tail.filter fun n => decide (n ≠ 0)).length
def e3 (p : Pn) : Nat := if fx p then 0 else if p.2.headD 0 = 0 then 0 else 1
def sm (e : Pn → Nat) (ps : List Pn) : Nat := (ps.map e).sum
def vecP (p : Pn) : List Nat := [e0 p, e1 p, e2 p, e3 p]
def vecs (ps : List Pn) : List Nat := [sm e0 ps, sm e1 ps, sm e2 ps, sm e3 ps]
theorem sm_app (e : Pn → Nat) (a b : List Pn) : sm e (a ++ b) = sm e a + sm e b := by unfold sm; rw [List.map_append, List.sum_append]
theorem sm_take {e : Pn → Nat} {ps : List Pn} {i : Nat} {p : Pn} (h : ps[i]? = some p) : sm e (ps.take (i + 1)) = sm e (ps.take i) + e p := by
  rw [List.take_succ, h, sm_app]
  show _ + ([p].map e).sum = _
  simp
theorem range_getD (l : List Nat) : (List.range l.length).map (fun j => l.getD j 0) = l := by
  have := range_map_get l id (fun j => l.getD j 0) fun i x h => by rw [List.getD_eq_getElem?_getD, h]; rfl
  rw [this, List.map_id]
theorem filt_len (l : List Nat) : (((List.range l.length).filter fun j => decide (l.getD j 0 ≠ 0))).length = (l.filter fun n => decide (n ≠ 0)).length := by
  have e := congrArg (fun z : List Nat => (z.filter fun n => decide (n ≠ 0)).length) (range_getD l)
  rw [List.filter_map, List.length_map] at e
  exact e
theorem bne_nat {n : Nat} (z : ¬ n = 0) : (((n : Nat) : Int) != 0) = true := by simp [z]
theorem shaped_dP {p : Pn} (h : Low p.1) : SeqAt.shaped (dP p) = true := by
  unfold SeqAt.shaped
  rw [lay_dP h, deep_dP]
  rfl
section
variable {P : Program} {w : World} {K : PySem.W.Frag} {mg : Str → Option Value} {base : Heap} {C : Addr} {f : Addr} {fd : FuncData}
theorem n_kw (T : Txt K mg C) {ks : List Str} {gV : List V → List V → List V} (hb : ∀ {f : Addr} {fd : FuncData}, FI K f fd → ∃ g, KBn K fd pI 1 ks g gV) : MakN P w K mg base 3 "Prices" C ks (sp_init C) gV := by
  obtain ⟨f, fd, F, me⟩ := T.d_Prices___init__.ex
  obtain ⟨g, h⟩ := hb F
  exact ⟨f, fd, pI, g, ⟨T.k_Prices.makes, me.at_, me.fn, T.k_Prices.kp⟩, ok_init T F, T.k_Prices.mgC, h⟩
def n_Prices_K_letter_sign_unknown_number (T : Txt K mg C) := n_kw (P := P) (w := w) (base := base) T bI_letter_sign_unknown_number
def n_Prices_K_number_unknown_sign_letter (T : Txt K mg C) := n_kw (P := P) (w := w) (base := base) T bI_number_unknown_sign_letter
def n_Prices_K_letter (T : Txt K mg C) := n_kw (P := P) (w := w) (base := base) T bI_letter
def n_Prices_K_sign (T : Txt K mg C) := n_kw (P := P) (w := w) (base := base) T bI_sign
def n_Prices_K_unknown (T : Txt K mg C) := n_kw (P := P) (w := w) (base := base) T bI_unknown
def n_Prices_K_number (T : Txt K mg C) := n_kw (P := P) (w := w) (base := base) T bI_number
def n_Prices_K_sign_number (T : Txt K mg C) := n_kw (P := P) (w := w) (base := base) T bI_sign_number
theorem n_Prices_D0 (T : Txt K mg C) : C8.Mak P w K mg base 3 "Prices" C (sp_init C) [.int 1, .int 1, .int 1, .int 1] := by
  obtain ⟨f, fd, F, me⟩ := T.d_Prices___init__.ex
  obtain ⟨ds, h1, h2⟩ := bI_D0 F
  exact ⟨f, fd, pI, ds, ⟨T.k_Prices.makes, me.at_, me.fn, T.k_Prices.kp⟩, ok_init T F, T.k_Prices.mgC, h2, h1⟩
/-! vectors -/
theorem range_true (n : Nat) : (List.range n).map (fun _ => V.bl true) = (List.replicate n true).map V.bl := by
  rw [List.map_const', List.length_range, List.map_replicate]
def sp_need_vector : Sp := fun vs H Q _ => ∃ (a : Addr) (g : F), vs = [.ref a] ∧ FT H a g ∧ g.length = 4 ∧ ∀ H', Same H H' → Q .non H'
theorem c_need_vector (T : Txt K mg C) : C8.Cal P w K mg base 3 "need_vector" sp_need_vector [] := by
  refine calF T.d_need_vector sc_need_vector (fun vs H Q E h => ?_) (fun f cdv A outer s H vs Q E hr h => ?_)
  · obtain ⟨_, _, rfl, _⟩ := h; rfl
  · obtain ⟨a, g, rfl, ha, h4, q⟩ := h
    refine ⟨_, (pss_one (ps_if (PW.pt (pw_or (pt_not (pt_val (pe_callB call_isK (by rfl) T.m_isinstance (by decide +kernel) (pa_cons (pv 0) (pa_cons (pe_bltn (v := .ty "tuple") (by rfl) T.m_tuple (by decide +kernel) rfl) pa_nil))))) (pw_or (pt_cmpR op_ne (pe_callB call_len_seq (by rfl) T.m_len (by decide +kernel) (pa_cons (pv 0) pa_nil)) (C8.pe_gc (by rfl) T.k_VECTOR_SIZE) (nomark _)) (pw_or1 (pt_not (pt_val (pe_callB (cr_all rfl) (by rfl) T.m_all (by decide +kernel) (pa_cons (pe_lc (own := [("number", 1)]) (by rfl) sc_need_vector.nd (pi_tup (pv 0)) (blkOk_by (N := ["value", "number"]) (sc := C8.fnScope (topS 23)) (own := [("number", 1)]) (by decide +kernel)) (fun _ _ _ _ _ => (pg_name (i := 1) sc_need_vector.nd rfl (Or.inl rfl))) (fun _ _ _ _ _ => pts_nil) (fun _ _ _ _ _ => (C8.pe_c (c_is_count T) hr (by decide) (by rfl) (pa_cons (pv 1) pa_nil)))) pa_nil))))))))
    (pss_one ps_never)
    pss_nil)), ?_⟩
    have kn : Kn H (.ref a) := .tup ha
    refine ⟨_, rfl, .ref a, "tuple", _, rfl, kn, kit_tuple kn, _, rfl, ?_⟩
    rw [isTu_tup ha]
    refine iteF ⟨_, rfl, a, _, rfl, .inr (.inl (.inl ha)), rfl, false, congrArg V.bl ?_, iteF ?_⟩
    · rw [List.length_map, h4]
      rfl
    refine ⟨_, rfl, a, rfl, ⟨_, .inl (.inl ha)⟩, fun D hD => ?_⟩
    refine lcT_map (K := K) (fun _ => .bl true) ha (small5 (by rw [List.length_map]; omega)) (fun i x H' R hx s q' => ?_) hD fun H' s hL => ?_
    · obtain ⟨n, _, _, rfl⟩ := get_nat hx
      refine ⟨rfl, _, rfl, .int _, rfl, .int _, ?_⟩
      rw [isC_nat]
      exact q' _ (Same.refl _)
    · refine ⟨D, g.map fun _ => true, rfl, .inl (.inl (by rw [hL, List.map_map, List.map_map]; rfl)), _, rfl, ?_⟩
      rw [show (g.map fun _ => true).all id = true by simp]
      exact iteF (q H' s)
def dotP (a b c d : Nat) (g : List Nat) : Nat := g.getD 0 0 * a + g.getD 1 0 * b + g.getD 2 0 * c + g.getD 3 0 * d
def sp_of (C : Addr) : Sp := fun vs H Q _ => ∃ (p t : Addr) (a b c d x y z u : Nat), vs = [.ref p, .ref t] ∧ PrO C H p a b c d ∧ FT H t [x, y, z, u] ∧ a < 2 ^ 200 ∧ b < 2 ^ 200 ∧ c < 2 ^ 200 ∧ d < 2 ^ 200 ∧ x < 2 ^ 200 ∧ y < 2 ^ 200 ∧ z < 2 ^ 200 ∧ u < 2 ^ 200 ∧ ∀ H', Same H H' → Q (.int ((dotP a b c d [x, y, z, u] : Nat))) H'
theorem m_Prices_of (T : Txt K mg C) : C8.Met P w K mg base 4 C "of" (sp_of C) [] := by
  refine metF T.k_Prices T.d_Prices_of sc_Prices_of (fun vs H Q E h => ?_) (fun f cdv A outer s H vs Q E hr h => ?_)
  · obtain ⟨_, _, _, _, _, _, _, _, _, _, rfl, _⟩ := h; rfl
  · obtain ⟨p, t, a, b, c, d, x, y, z, u, rfl, hp, ht, ha, hb, hc, hd, hx, hy, hz, hu, q⟩ := h
    have cl := T.k_Prices.ins.cl
    refine ⟨_, (pss_cons (ps_expr (C8.pe_c (c_need_vector T) hr (by decide) (by rfl) (pa_cons (pv 1) pa_nil)))
    (pss_cons (ps_asg (pv 1) (pg_tup rfl (pgs_cons (pg_name (i := 2) sc_Prices_of.nd rfl (Or.inl rfl)) (pgs_cons (pg_name (i := 3) sc_Prices_of.nd rfl (Or.inl rfl)) (pgs_cons (pg_name (i := 4) sc_Prices_of.nd rfl (Or.inl rfl)) (pgs_cons (pg_name (i := 5) sc_Prices_of.nd rfl (Or.inl rfl)) pgs_nil))))))
    (pss_one (ps_ret (pe_op op_add (pe_op op_add (pe_op op_add (pe_op op_mulW (pv 2) (pe_fld (pv 0) rfl)) (pe_op op_mulW (pv 3) (pe_fld (pv 0) rfl))) (pe_op op_mulW (pv 4) (pe_fld (pv 0) rfl))) (pe_op op_mulW (pv 5) (pe_fld (pv 0) rfl))))))), ?_⟩
    refine ⟨_, rfl, t, _, rfl, ht, rfl, fun H1 s1 => ?_⟩
    have ht1 : H1 t = some (.tup [.int (x : Nat), .int (y : Nat), .int (z : Nat), .int (u : Nat)]) := s1 _ _ ht
    obtain ⟨dx, hp1⟩ := hp.same s1
    refine ⟨_, rfl, ?_⟩
    have wm : ∀ {m n : Nat}, m < 2 ^ 200 → n < 2 ^ 200 → CMulW (m : Int) (n : Int) := fun h1 h2 => wide_mul (a := 200) (b := 200) (by rw [Int.natAbs_natCast]; exact h1) (by rw [Int.natAbs_natCast]; exact h2) (by decide) (by decide) (by decide)
    refine ⟨t, _, rfl, .inl (.inl ht1), rfl, _, _, rfl, _, _, rfl, _, _, rfl, _, _, rfl, rfl, ?_⟩
    refine ⟨_, rfl, _, rfl, p, C, dx, _, _, rfl, hp1, cl, T.f_letter, fp_l a b c d, _, _, rfl, rfl, wm hx ha, ?_⟩
    refine ⟨_, rfl, _, rfl, p, C, dx, _, _, rfl, hp1, cl, T.f_sign, fp_s a b c d, _, _, rfl, rfl, wm hy hb, _, _, rfl, rfl, ?_⟩
    refine ⟨_, rfl, _, rfl, p, C, dx, _, _, rfl, hp1, cl, T.f_unknown, fp_u a b c d, _, _, rfl, rfl, wm hz hc, _, _, rfl, rfl, ?_⟩
    refine ⟨_, rfl, _, rfl, p, C, dx, _, _, rfl, hp1, cl, T.f_number, fp_n a b c d, _, _, rfl, rfl, wm hu hd, _, _, rfl, rfl, ?_⟩
    have e : (x : Int) * a + y * b + z * c + u * d = ((dotP a b c d [x, y, z, u] : Nat) : Int) := by
      show _ = ((x * a + y * b + z * c + u * d : Nat) : Int)
      push_cast
      rfl
    dsimp only
    rw [e]
    exact q H1 s1
/-- the vector of a piece -/
def sp_piece_vector : Sp := fun vs H Q _ => ∃ (a : Addr) (p : Pn) (m : Nat), vs = [.ref a] ∧ PC H a p ∧ p.2.length = m + 1 ∧ m ≤ 3 ∧ Low p.1 ∧ p.1.length ≤ 2000 ∧ ∀ r H', Same H H' → FT H' r (vecP p) → Q (.ref r) H'
theorem c_piece_vector (T : Txt K mg C) : C8.Cal P w K mg base 2 "piece_vector" sp_piece_vector [] := by
  refine calF T.d_piece_vector sc_piece_vector (fun vs H Q E h => ?_) (fun f cdv A outer s H vs Q E hr h => ?_)
  · obtain ⟨_, _, _, rfl, _⟩ := h; rfl
  · obtain ⟨a, p, m, rfl, pc, hl, m3, low, w2, q⟩ := h
    refine ⟨_, (pss_cons (ps_asg (pv 0) (pg_two (K := K) (i := 1) (j := 2) rfl rfl sc_piece_vector.nd rfl rfl (Or.inl rfl) (Or.inl rfl)))
    (pss_cons (ps_if (pt_cmpR (op_eqD hr.units) (pv 0) (C8.pe_c (c_fixed_piece T) hr (by decide) (by rfl) (pa_cons (pv 1) (pa_cons (pe_op op_sub (pe_callB call_len_seq (by rfl) T.m_len (by decide +kernel) (pa_cons (pv 2) pa_nil)) pe_int) pa_nil))) (nomark _))
    (pss_one (ps_ret (pe_tup (pa_cons (pe_callB call_len_str (by rfl) T.m_len (by decide +kernel) (pa_cons (pv 1) pa_nil)) (pa_cons pe_int (pa_cons pe_int (pa_cons pe_int pa_nil)))))))
    pss_nil)
    (pss_one (ps_ret (pe_tup (pa_cons (pe_callB call_len_str (by rfl) T.m_len (by decide +kernel) (pa_cons (pv 1) pa_nil)) (pa_cons pe_int (pa_cons (pe_callB call_len_seq (by rfl) T.m_len (by decide +kernel) (pa_cons (pe_lc (own := [("number", 3)]) (by rfl) sc_piece_vector.nd (pi_tup (pe_slice sl_drop (pv 2) (po_some pe_int) po_none)) (blkOk_by (N := ["piece", "word", "form", "number"]) (sc := C8.fnScope (topS 25)) (own := [("number", 3)]) (by decide +kernel)) (fun _ _ _ _ _ => (pg_name (i := 3) sc_piece_vector.nd rfl (Or.inl rfl))) (fun _ _ _ _ _ => (pts_one (pt_truI (pv 3) (by intro _; rfl)))) (fun _ _ _ _ _ => (pv 3))) pa_nil)) (pa_cons (pe_ifExp (pt_truth (pe_ix ix_tup (pv 2) pe_int (fun _ _ => rfl)) (by intro _; rfl)) pe_int pe_int) pa_nil))))))))), ?_⟩
    obtain ⟨fa, h1, h2⟩ := id pc
    refine ⟨_, rfl, a, _, rfl, .inl (.inl h1), rfl, _, _, rfl, _, _, rfl, rfl, ?_⟩
    refine ⟨_, rfl, _, rfl, _, rfl, fa, _, rfl, .inr (.inl (.inl h2)), _, _, rfl, rfl, p.1, m, by rw [List.length_map, hl]; show [V.str (S p.1), V.int (((m + 1 : Nat) : Int) - 1)] = _; rw [show ((m + 1 : Nat) : Int) - 1 = (m : Int) by omega], m3, fun r H1 s1 pr => ?_⟩
    refine ⟨dP p, dP (fixP p.1 m), dp_PC (pc.mono (tup_same s1)), dp_PC pr, shaped_dP low, shaped_dP low, _, rfl, ?_⟩
    rw [eqv_dP]
    have ef : decide (p = fixP p.1 m) = fx p := by
      unfold fx fixP
      rw [hl, Nat.add_sub_cancel]
      exact decide_eq_decide.mpr ⟨fun e => congrArg Prod.snd e, fun e => Prod.ext rfl e⟩
    rw [ef]
    have h21 := s1 _ _ h2
    cases fe : fx p with
    | true =>
      refine iteT ⟨_, rfl, S p.1, rfl, len_line (by omega), by show 4 ≤ sizeLine; decide, fun t nt => q t _ (s1.trans (sameNew nt)) ?_⟩
      unfold FT vecP e0 e1 e2 e3
      rw [fe, upd_same, S_len]
      rfl
    | false =>
      refine iteF ?_
      rw [tnext_eq]
      refine ⟨_, rfl, S p.1, rfl, len_line (by omega), _, rfl, 1, rfl, fa, _, 1, rfl, rfl, rfl, h21, fun p1 H2 s2 h3 => ?_⟩
      have h3' : H2 p1 = some (.tup (p.2.tail.map fun n : Nat => V.int (n : Nat))) := by
        rw [h3, ← List.map_drop]
        cases p.2 <;> rfl
      refine ⟨p1, rfl, ⟨_, .inl (.inl h3')⟩, fun D hD => ?_⟩
      refine lcT_filt (K := K) (a := p1) (xs := p.2.tail.map fun n : Nat => V.int (n : Nat)) (fun j => decide (p.2.tail.getD j 0 ≠ 0)) (fun j => .int ((p.2.tail.getD j 0 : Nat) : Int)) (fun H' s => .inl (.inl (s _ _ h3'))) (small5 (by rw [List.length_map, List.length_tail]; omega)) (fun j z H4 R R0 hz s4 q1 q0 => ?_) hD fun H4 s4 hE => ?_
      · obtain ⟨n, _, hn, rfl⟩ := get_nat hz
        have en : p.2.tail.getD j 0 = n := by rw [List.getD_eq_getElem?_getD, hn]; rfl
        refine ⟨rfl, _, rfl, _, rfl, ?_⟩
        by_cases z : n = 0
        · rw [show (((n : Nat) : Int) != 0) = false by rw [z]; rfl]
          exact iteF (q0 (decide_eq_false fun y => y (en.trans z)) _ (Same.refl _))
        · rw [bne_nat z]
          refine iteT ⟨_, rfl, ?_⟩
          have := q1 (decide_eq_true fun y => z (en.symm.trans y)) _ (Same.refl _)
          rw [en] at this
          exact this
      · have h24 := s4 _ _ (s2 _ _ h21)
        refine ⟨D, _, rfl, .inl (.inl (.inl hE)), ?_⟩
        refine ⟨_, rfl, fa, _, 0, _, rfl, rfl, .inl (.inl h24), atI_nat (j := 0) (head_get hl), _, rfl, ?_⟩
        have el : (((List.range (p.2.tail.map fun n : Nat => V.int (n : Nat)).length).filter fun j => decide (p.2.tail.getD j 0 ≠ 0)).map fun j => V.int ((p.2.tail.getD j 0 : Nat) : Int)).length = (p.2.tail.filter fun n => decide (n ≠ 0)).length := by
          rw [List.length_map, List.length_map, filt_len]
        have fin : ∀ e : Nat, e = e3 p → ∀ t, H4 t = none → Q (.ref t) (upd H4 t (.tup [.int ((S p.1).length : Nat), .int 1, .int ((((List.range (p.2.tail.map fun n : Nat => V.int (n : Nat)).length).filter fun j => decide (p.2.tail.getD j 0 ≠ 0)).map fun j => V.int ((p.2.tail.getD j 0 : Nat) : Int)).length : Nat), .int (e : Nat)])) := fun e ee t nt => by
          refine q t _ ((s1.trans s2).trans (s4.trans (sameNew nt))) ?_
          rw [el]
          unfold FT vecP e0 e1 e2
          rw [fe, upd_same, S_len, ee]
          rfl
        by_cases z : p.2.headD 0 = 0
        · rw [show (((p.2.headD 0 : Nat) : Int) != 0) = false by rw [z]; rfl]
          exact iteF ⟨by show 4 ≤ sizeLine; decide, fun t nt => fin 0 (by unfold e3; rw [fe, if_pos z]; rfl) t nt⟩
        · rw [bne_nat z]
          exact iteT ⟨by show 4 ≤ sizeLine; decide, fun t nt => fin 1 (by unfold e3; rw [fe, if_neg z]; rfl) t nt⟩
/-- no prices are ones -/
def sp_chosen (C : Addr) : Sp := fun vs H Q _ => (vs = [.non] ∧ ∀ p H', Same H H' → PrO C H' p 1 1 1 1 → Q (.ref p) H') ∨ ∃ (p : Addr) (a b c d : Nat), vs = [.ref p] ∧ PrO C H p a b c d ∧ Q (.ref p) H
theorem c_chosen_prices (T : Txt K mg C) : C8.Cal P w K mg base 5 "chosen_prices" (sp_chosen C) [] := by
  refine calF T.d_chosen_prices sc_chosen_prices (fun vs H Q E h => ?_) (fun f cdv A outer s H vs Q E hr h => ?_)
  · rcases h with ⟨rfl, _⟩ | ⟨_, _, _, _, _, rfl, _⟩ <;> rfl
  · refine ⟨_, (pss_cons (ps_if (pt_cmpR op_isN (pv 0) pe_non (nomark _))
    (pss_one (ps_ret (pe_mk0 (n_Prices_D0 T) hr (by decide) (by rfl))))
    pss_nil)
    (pss_cons (ps_if (pt_not (pt_val (pe_callB (C8.call_isC T.k_Prices.ins) (by rfl) T.m_isinstance (by decide +kernel) (pa_cons (pv 0) (pa_cons (C8.pe_gc (v := .ref C) (by rfl) ⟨_, T.k_Prices.mgC, rfl⟩) pa_nil)))))
    (pss_one ps_never)
    pss_nil)
    (pss_one (ps_ret (pv 0))))), ?_⟩
    rcases h with ⟨rfl, q⟩ | ⟨p, a, b, c, d, rfl, hp, q⟩
    · refine ⟨_, rfl, rfl, true, congrArg V.bl (decide_eq_true rfl), iteT ?_⟩
      intro x dx nx ndx nex
      exact mk_pr nx ndx nex (by decide) fun H' s h => ⟨rfl, q x H' s h⟩
    · obtain ⟨dx, hp⟩ := hp
      refine ⟨_, rfl, rfl, false, congrArg V.bl (decide_eq_false fun z => by cases z), iteF ?_⟩
      rw [tnext_eq]
      exact ⟨_, rfl, p, dx, _, rfl, hp, _, rfl, iteF ⟨_, rfl, q⟩⟩

end
end K61

set_option Elab.async false
set_option linter.all false
set_option maxRecDepth 100000
set_option maxHeartbeats 4000000
namespace K61
open PySem PySem.Spec PyProof.Rows L2 CK SX NM
theorem lcC_draw {lo : Int} {g : Addr} {n cnt j : Nat} (c : Nat) (Pz : V → Prop) {te : TE} {vs : List Nat} {σ : L2.St} {H1 : Hp} {D : Addr} {Qd : Hp → Prop} (hc : cnt < sizeLine) (hD : H1 D = none) (hg : Gn (n + c * cnt) H1 g)
    (hs : ∀ (i : Nat) (H : Hp) (R : VK), i < cnt → SameX g H1 H → Gn (n + c * (cnt - (i + 1)) + c) H g → (∀ (r : V) H', SameX g H H' → Gn (n + c * (cnt - (i + 1))) H' g → Pz r → R r H') →
      wipe ((wipe σ vs).set j (some (.int (lo + i)))) vs = wipe σ vs ∧ te ((wipe σ vs).set j (some (.int (lo + i)))) H R)
    (hd : ∀ (H : Hp) (ns : List V), SameX g H1 H → Gn n H g → H D = some (.lst ns) → ns.length = cnt → (∀ x ∈ ns, Pz x) → Qd H) :
    ∃ W : Nat → Nat → Hp → Prop, (∃ m, W 0 m (L2.upd H1 D (.lst []))) ∧ ∀ i m H, W i m H →
      ((Itr lo cnt).stop i H ∧ Qd H) ∨ ((Itr lo cnt).go i H ∧ ∃ Nx : Hp → Prop, (∀ H', Nx H' → ∃ m', m' < m ∧ W (i + 1) m' H') ∧ ∀ x H', (Itr lo cnt).yld i H x H' → gName j x (wipe σ vs) H' fun σ2 H2 => wipe σ2 vs = wipe σ vs ∧ tYes σ2 H2 fun b H3 =>
        if b = true then te σ2 H3 fun y H4 => ∃ acc, H4 D = some (.lst acc) ∧ acc.length < sizeLine ∧ Nx (L2.upd H4 D (.lst (acc ++ [y]))) else Nx H3) := by
  have hDg := hg.ne hD
  refine lc_range (fun i H => SameX g H1 H ∧ Gn (n + c * (cnt - i)) H g ∧ i ≤ cnt ∧ ∃ ns : List V, H D = some (.lst ns) ∧ ns.length = i ∧ ∀ x ∈ ns, Pz x)
    ⟨sameX_new hD, hg.upd hDg, Nat.zero_le _, [], upd_same, rfl, fun x h => absurd h List.not_mem_nil⟩ (fun i H hi p => ?_) fun H p => ?_
  · obtain ⟨s, G, _, ns, hL, hl, hb⟩ := p
    have G1 : Gn (n + c * (cnt - (i + 1)) + c) H g := by
      have e : n + c * (cnt - (i + 1)) + c = n + c * (cnt - i) := by
        have hi' : i < cnt := hi
        rw [show cnt - i = (cnt - (i + 1)) + 1 by omega, Nat.mul_succ]
        omega
      rw [e]
      exact G
    refine hs i H _ hi s G1 fun r H' s' G' h0 => ⟨_, s' D _ hDg hL, by omega, (s.trans s').upd2 hD, G'.upd hDg, hi, ns ++ [r], upd_same, ?_, fun x hx => ?_⟩
    · rw [List.length_append, hl]
      rfl
    · rcases List.mem_append.mp hx with z | z
      · exact hb x z
      · rw [List.mem_singleton.mp z]
        exact h0
  · obtain ⟨s, G, _, ns, hL, hl, hb⟩ := p
    rw [Nat.sub_self, Nat.mul_zero] at G
    exact hd H ns s G hL hl hb
theorem Nn_of {B : Nat} : ∀ {vs : List V}, (∀ v ∈ vs, ∃ c : Nat, v = V.int (c : Nat) ∧ c < B) → ∃ cs : List Nat, vs = (cs.map fun n : Nat => V.int (n : Nat)) ∧ (∀ c ∈ cs, c < B) ∧ cs.length = vs.length
  | [], _ => ⟨[], rfl, fun c h => absurd h List.not_mem_nil, rfl⟩
  | v :: vs, h => by
    obtain ⟨c, rfl, hc⟩ := h v List.mem_cons_self
    obtain ⟨cs, rfl, h2, h3⟩ := Nn_of fun x hx => h x (List.mem_cons_of_mem _ hx)
    refine ⟨c :: cs, rfl, fun x hx => ?_, by simp⟩
    rcases List.mem_cons.mp hx with rfl | hx
    · exact hc
    · exact h2 x hx
section
variable {P : Program} {w : World} {K : PySem.W.Frag} {mg : Str → Option Value} {base : Heap} {C : Addr}
end
end K61

set_option Elab.async false
set_option linter.all false
set_option maxRecDepth 100000
set_option maxHeartbeats 400000
/-! enumerate(list, start=1) -/
namespace CK
open PySem PySem.Spec PyProof.Rows L2 PySem.W
/-- the list at a as it stands at each turn, each item in a new pair with its number from 1 -/
def Ite1 (K : PySem.W.Frag) (a : Addr) : It :=
  ⟨fun i H => ∃ (xs : List V) (x : V), SqL K H a xs ∧ xs[i]? = some x, fun i H v H' => ∃ T x, v = .ref T ∧ H T = none ∧ H' = upd H T (.tup [.int (i + 1 : Nat), x]) ∧ ∀ xs, SqL K H a xs → xs[i]? = some x, fun i H => ∃ xs : List V, SqL K H a xs ∧ xs.length ≤ i⟩
theorem turn_enum1 {P : Program} {w : World} {K : PySem.W.Frag} {elts : List Expr} {kk : Nat} {tpos : Pos} (a e it : Addr) (hea : e ≠ a) (hia : it ≠ a) :
    Turn P w K (.Tuple elts kk tpos) (Ite1 K a) [e, it] e (fun i h => (∃ old, IsEnum h e it (1 + (i : Int)) old) ∧ h.IsListIter it a i ∧ e ≠ it) where
  mem := by simp
  obj := fun i h st b hb => by
    obtain ⟨⟨old, he⟩, ⟨o, ho, hc, hd⟩, _⟩ := st
    rcases (by simpa using hb : b = e ∨ b = it) with z | z
    · rw [z]; exact ⟨_, he, fun v q => nomatch q⟩
    · rw [z]; exact ⟨o, ho, fun v q => by rw [hd] at q; cases q⟩
  keep := fun i h h' st k => by
    obtain ⟨⟨old, he⟩, hi, hne⟩ := st
    exact ⟨⟨old, k e (by simp) _ he⟩, hi.at fun o q => k it (by simp) o q, hne⟩
  item := by
    intro X hP hw hK hc i pins s σ H E I hf st hg
    subst hP hw hK
    obtain ⟨⟨old, he⟩, hit, hne⟩ := st
    obtain ⟨xs, x, hq, hx⟩ := hg
    obtain ⟨its, rv, p, hz⟩ := I.list hq
    obtain ⟨u, hu, ru⟩ := rv.get hx
    have hel : e < s.heap.objs.size := Heap.lt_size he
    have hil : it < s.heap.objs.size := by obtain ⟨_, q, _⟩ := hit; exact Heap.lt_size q
    have D := Draws.list (prog := X.prog) (w := X.w) (A := X.A.in1) (I.ok.hd hc) it a (Ne.symm hia) its.toArray
    have hlt : i < its.toArray.size := by
      have := (List.getElem?_eq_some_iff.mp hu).1
      simpa using this
    refine wpAny_pyNext_enum_itemC D he ⟨hit, p.isList⟩ hlt hne (by simp [hne, hea]) fun x' h' tk hP' ho st' hT hsz hk => ?_
    have : x' = u := by
      have hP' : its[i]? = some x' := by simpa using hP'
      exact Option.some.inj (hP'.symm.trans hu)
    subst this
    refine ⟨_, rfl, wpAny_letOwnedTupleGo_enum (s := { s with heap := h', toks := tk + 1 }) ho fun h'' he' sb => ?_⟩
    have hT2 : h''.get? s.heap.objs.size = some { cls := .type "tuple", data := .seq #[.int (1 + (i : Int)) tk, x'] } := (sb.2 _ (Nat.ne_of_gt hel)).trans hT
    have e1 : ((i + 1 : Nat) : Int) = 1 + (i : Int) := by omega
    have new : ObjOk X.prog X.w (upd H s.heap.objs.size (.tup [.int (i + 1 : Nat), x])) h'' s.heap.objs.size (.tup [.int (i + 1 : Nat), x]) := by
      rw [e1]
      exact ⟨by show 2 ≤ sizeLine; decide, [.int (1 + (i : Int)) tk, x'], .cons ⟨_, rfl⟩ (.cons ru .nil), ⟨_, hT2, rfl, _, rfl⟩⟩
    have I1 : Inv X pins σ (upd H s.heap.objs.size (.tup [.int (i + 1 : Nat), x])) { s with heap := h'', toks := tk + 1 } :=
      I.turnedNew (ch := [e, it]) (fun b ob hb q => (sb.2 b (fun z => hb (by simp [z]))).trans (hk b ob (fun z => hb (by simp [z])) (fun z => hb (by simp [z])) q)) hf (Nat.le_refl _) new
    refine ⟨.ref s.heap.objs.size, _, I1, rfl, ⟨_, x, rfl, I.hok.fresh (Nat.le_refl _), rfl, fun ys hy => by rw [I.list_inj hy hq]; exact hx⟩, ⟨⟨x', ?_⟩, st'.1.at fun o q => (sb.2 it (Ne.symm hne)).trans q, hne⟩, fun b hb => ?_⟩
    · rw [show (1 : Int) + ((i + 1 : Nat) : Int) = 1 + (i : Int) + 1 by omega]
      exact he'
    · have hb' : b < s.heap.objs.size := by
        rcases (by simpa using hb : b = e ∨ b = it) with z | z
        · rw [z]; exact hel
        · rw [z]; exact hil
      rw [upd_ne (Nat.ne_of_lt hb')]
      exact (hf b hb).1
  done := by
    intro X hP hw hK hc i pins s σ H E I hf st hg
    subst hP hw hK
    obtain ⟨⟨old, he⟩, hit, hne⟩ := st
    obtain ⟨xs, hq, hx⟩ := hg
    obtain ⟨its, rv, p, hz⟩ := I.list hq
    obtain ⟨f0, f1, f2, f3, f4, f5⟩ := hf it (by simp)
    have hl := rv.length
    have D : Draws X.prog X.w X.A.in1 it [it, a] i (fun _ _ => True) (fun j h => j = i ∧ h.IsListIter it a i ∧ h.IsList a its.toArray) :=
      { live := fun _ _ st => by obtain ⟨_, ⟨o, ho, _⟩, _⟩ := st; exact ⟨o, ho⟩
        frame := fun _ _ _ st hk => ⟨st.1, st.2.1.at fun o e => hk it (by simp) o e, st.2.2.at fun o e => hk a (by simp) o e⟩
        item := fun j s Q E hj st hQ => absurd st.1 (Nat.ne_of_lt hj)
        done := fun s Q E st hE => wpAny_nextOf_list_end (I.ok.hd hc) st.2.1 st.2.2 (by simp; omega) hE }
    exact wpAny_pyNext_enum_endD D he ⟨rfl, hit, p.isList⟩ fun h' eb => ⟨rfl, I.turned (t' := s.toks) (fun b o hb q => eb b o hb q) f0 f1 f3 f4 f5⟩
  self := fun A i s Q E st h => by
    obtain ⟨⟨_, he⟩, _⟩ := st
    exact wpAny_pyIter_enum he h
/-- T(x, .., name=y), T a built-in class -/
theorem callT_kw {M : Model} {A : Around} {E : Value → Shared → Prop} {s : Shared} {env : Env} {pos : Pos} {T : String} {e : Expr} {rest : List Expr} {kws : List Keyword} {Q : Value → Shared → Prop}
    (h : wpAny M A (spliced (backTo pos (starEach (e :: rest) env))) (fun vs s₁ => wpAny M A (evalAll ((backToKw pos (keywordEach kws env)).map (·.2)))
      (fun kvs s₂ => wpAny M A (call (.type T) vs (((backToKw pos (keywordEach kws env)).filterMap (·.1)).zip kvs)) Q E s₂) E s₁) E s)
    (he : backTo pos (starEach (e :: rest) env) = (false, eval e env) :: backTo pos (starEach rest env)) (hp : (backTo pos (starEach (e :: rest) env)).any (·.1) = false)
    (ha : (backToKw pos (keywordEach kws env)).all (·.1.isSome) = true) (hk : (backToKw pos (keywordEach kws env)).any (·.1.isNone) = false) :
    wpAny M A (callWith pos (.type T) [] (backTo pos (starEach (e :: rest) env)) (backToKw pos (keywordEach kws env))) Q E s := by
  have h1 : wpAny M A (evalArgs (.type T) true (backTo pos (starEach (e :: rest) env)) (backToKw pos (keywordEach kws env))) (fun a s₁ => wpAny M A (call (.type T) ([] ++ a.pos) a.kw) Q E s₁) E s := by
    rw [he] at h ⊢
    exact PyProof.Rows.evalArgs_kwB ha h
  unfold callWith
  refine wpAny_bind (wpAny_holding (wpAny_mono h1 (fun a s₁ h₁ => wpAny_bind (wpAny_standAt ?_)) fun _ _ x => x))
  simp only [hp, hk, Bool.or_false]
  refine wpAny_bind (wpAny_pure ?_)
  exact wpAny_bind (wpAny_mono h₁ (fun r s₂ hr => wpAny_bind (wpAny_holding (wpAny_point (wpAny_pure hr)))) fun _ _ x => x)
def iEnum1 (K : PySem.W.Frag) (ta : TA) : TI := fun σ H R => ta σ H fun vs H1 => ∃ a xs, vs = [.ref a] ∧ SqL K H1 a xs ∧ R (Ite1 K a) H1
theorem pi_enum1 {X : Cx} {e cst : Expr} {ta : TA} {tc : TE} {p kp pos tpos : Pos} {elts : List Expr} {kk : Nat} (hg : Gl X "enumerate") (hm : X.mg "enumerate" = none) (ha : PA X [e] ta) (hcst : PE X cst tc)
    (he : backTo pos (starEach [e] X.env) = (false, eval e X.env) :: backTo pos (starEach [] X.env) := by rfl) (hpl : (backTo pos (starEach [e] X.env)).any (·.1) = false := by rfl) :
    PI X (.Tuple elts kk tpos) (.Call (.Name "enumerate" p) [e] [⟨some "start", cst, kp⟩] pos) (fun σ H R => ta σ H fun vs H1 => tc σ H1 fun d H2 => ∃ a xs, vs = [.ref a] ∧ SqL X.K H2 a xs ∧ d = .int 1 ∧ R (Ite1 X.K a) H2) := by
  refine ⟨fun pins s σ H R I h => ?_⟩
  refine wpAny_Call_Name_kw (ld_blt I hg hm boot_enumerate ?_)
  refine callT_kw (thn (ha.run pos pins s σ H _ I h) fun us s1 ⟨vs, H1, I1, r1, q1⟩ => ?_) he hpl rfl rfl
  show wpAny _ _ (evalAll ((do let v ← eval cst X.env; standAt pos; pure v) :: [])) _ _ s1
  refine wpAny_evalAll_cons (wpAny_bind (wpAny_mono (hcst.run pins s1 σ H1 _ I1 q1) (fun dv s2 h2 => ?_) fun _ _ e => e))
  obtain ⟨d, H2, I2, rd, q2⟩ := h2
  refine wpAny_bind (wpAny_standAt (wpAny_pure ?_))
  refine wpAny_evalAll_nil ?_
  obtain ⟨a, xs, rfl, hq, rfl, q⟩ := q2
  rw [Vals.ref1 r1]
  obtain ⟨td, rfl⟩ := rd
  obtain ⟨its, rv, p', hz⟩ := I2.list hq
  have hal : a < s2.heap.objs.size := by obtain ⟨_, e, _⟩ := p'.isList; exact Heap.lt_size e
  show wpAny _ _ (call (.type "enumerate") [.ref a] [(Str.ofString "start", .int 1 td)]) _ _ s2
  refine enum_begins_start (begins_list a its.toArray) p'.isList (by decide) (by decide) fun h' hen hit hsz hk => wpAny_pyIter_enum hen ?_
  have I3 : Inv X pins σ H2 { s2 with heap := h' } := I2.kept (t' := s2.toks) hk
  refine ⟨s2.heap.objs.size + 1, [s2.heap.objs.size + 1, s2.heap.objs.size], _, _, H2, rfl, I3, turn_enum1 a (s2.heap.objs.size + 1) s2.heap.objs.size (Nat.ne_of_gt (Nat.lt_succ_of_lt hal)) (Nat.ne_of_gt hal), ⟨⟨.none, hen⟩, ⟨_, hit, rfl, rfl⟩, Nat.succ_ne_self _⟩, fun b hb => ?_, q⟩
  have hle : s2.heap.objs.size ≤ b := by
    rcases (by simpa using hb : b = s2.heap.objs.size + 1 ∨ b = s2.heap.objs.size) with z | z
    · rw [z]; exact Nat.le_add_right _ _
    · rw [z]; exact Nat.le_refl _
  exact I2.fpOk hle (I2.hok.fresh hle)
theorem walk_enum1 {K : PySem.W.Frag} {a : Addr} {xs : List V} : Walk (Ite1 K a) xs.length (fun H => SqL K H a xs) (YPair (fun i => some (.int (i + 1 : Nat))) (fun i => xs[i]?)) := by
  refine ⟨fun i _ hi q => ⟨xs, xs[i], q, by simp [hi]⟩, fun _ q => ⟨xs, q, Nat.le_refl _⟩, fun i H v H' _ q y => ?_⟩
  obtain ⟨T, x, h1, h2, h3, h4⟩ := y
  exact ⟨T, .int (i + 1 : Nat), x, h1, h2, h3, rfl, h4 xs q⟩
end CK

set_option linter.all false
/-! plain writers of a word: pieces (word, times); cost, the order of writers, the least by the least steps -/
namespace LP
abbrev Pc := List Nat × Nat
def c1 (a s : Nat) (p : Pc) : Nat := p.1.length * a + (if p.2 = 1 then 0 else s)
def cost (a s : Nat) : List Pc → Nat
  | [] => 0
  | p :: W => c1 a s p + cost a s W
def spell : List Pc → List Nat
  | [] => []
  | p :: W => WM.pw p.1 p.2 ++ spell W
def Okp (p : Pc) : Prop := p.1 ≠ [] ∧ 1 ≤ p.2
def IsW (w : List Nat) (W : List Pc) : Prop := spell W = w ∧ ∀ p ∈ W, Okp p
def ltP (p q : Pc) : Prop := p.1 < q.1 ∨ (p.1 = q.1 ∧ p.2 < q.2)
theorem ltP_trans {p q r : Pc} (h : ltP p q) (g : ltP q r) : ltP p r := by
  rcases h with h | ⟨h1, h2⟩
  · rcases g with g | ⟨g1, g2⟩
    · exact .inl (List.lt_trans h g)
    · exact .inl (g1 ▸ h)
  · rcases g with g | ⟨g1, g2⟩
    · exact .inl (h1 ▸ g)
    · exact .inr ⟨h1.trans g1, Nat.lt_trans h2 g2⟩
theorem ltP_irrefl (p : Pc) : ¬ ltP p p := fun h => by
  rcases h with h | ⟨_, h⟩
  · exact List.lt_irrefl _ h
  · exact Nat.lt_irrefl _ h
theorem ltP_total (p q : Pc) : ltP p q ∨ p = q ∨ ltP q p := by
  by_cases h : p.1 < q.1
  · exact .inl (.inl h)
  · by_cases g : q.1 < p.1
    · exact .inr (.inr (.inl g))
    · have e : p.1 = q.1 := List.le_antisymm (List.not_lt.mp g) (List.not_lt.mp h)
      rcases Nat.lt_trichotomy p.2 q.2 with h | h | h
      · exact .inl (.inr ⟨e, h⟩)
      · exact .inr (.inl (Prod.ext e h))
      · exact .inr (.inr (.inr ⟨e.symm, h⟩))
def leL : List Pc → List Pc → Prop
  | [], _ => True
  | _ :: _, [] => False
  | p :: W, q :: V => ltP p q ∨ (p = q ∧ leL W V)
theorem leL_anti : ∀ {W V : List Pc}, leL W V → leL V W → W = V
  | [], [], _, _ => rfl
  | [], _ :: _, _, h => h.elim
  | _ :: _, [], h, _ => h.elim
  | p :: W, q :: V, h, g => by
    rcases h with h | ⟨rfl, h⟩
    · rcases g with g | ⟨rfl, g⟩
      · exact absurd (ltP_trans h g) (ltP_irrefl _)
      · exact absurd h (ltP_irrefl _)
    · rcases g with g | ⟨_, g⟩
      · exact absurd g (ltP_irrefl _)
      · rw [leL_anti h g]
def leR (a s : Nat) (W V : List Pc) : Prop := cost a s W < cost a s V ∨ (cost a s W = cost a s V ∧ (W.length < V.length ∨ (W.length = V.length ∧ leL W V)))
theorem leR_anti {a s : Nat} {W V : List Pc} (h : leR a s W V) (g : leR a s V W) : W = V := by
  rcases h with h | ⟨h1, h⟩
  · rcases g with g | ⟨g1, g⟩ <;> omega
  · rcases g with g | ⟨g1, g⟩
    · omega
    · rcases h with h | ⟨h2, h⟩
      · rcases g with g | ⟨g2, g⟩ <;> omega
      · rcases g with g | ⟨g2, g⟩
        · omega
        · exact leL_anti h g
def Best (a s : Nat) (w : List Nat) (W : List Pc) : Prop := IsW w W ∧ ∀ V, IsW w V → leR a s W V
theorem pw_lenP (p : Pc) : (WM.pw p.1 p.2).length = p.1.length * p.2 := WM.pw_len _ _
theorem okp_pos {p : Pc} (h : Okp p) : 1 ≤ p.1.length * p.2 := Nat.mul_pos (List.length_pos_iff.mpr h.1) h.2
theorem best_nil (a s : Nat) : Best a s [] [] := by
  refine ⟨⟨rfl, fun p h => absurd h List.not_mem_nil⟩, fun V h => ?_⟩
  cases V with
  | nil => exact .inr ⟨rfl, .inr ⟨rfl, trivial⟩⟩
  | cons p V =>
    have h1 := congrArg List.length h.1
    have h2 := okp_pos (h.2 p List.mem_cons_self)
    rw [spell, List.length_append, pw_lenP] at h1
    simp at h1
    omega
def leStep (a s : Nat) (p q : Pc) : Prop := c1 a s p < c1 a s q ∨ (c1 a s p = c1 a s q ∧ (ltP p q ∨ p = q))
def StepOk (a s : Nat) (z : List Nat) (p : Pc) : Prop := WM.pw p.1 p.2 = z ∧ Okp p ∧ ∀ q, WM.pw q.1 q.2 = z → Okp q → leStep a s p q
/-- the pieces that are looked at for a stretch -/
def opts (z : List Nat) : List Pc := (z, 1) :: if WM.rootN z < z.length then [(z.take (WM.rootN z), z.length / WM.rootN z)] else []
theorem pw_one (z : List Nat) : WM.pw z 1 = z := by
  unfold WM.pw
  simp
theorem per_of_pw {z x : List Nat} {t : Nat} (x0 : x ≠ []) (h : WM.pw x t = z) : WM.Per x.length z := by
  subst h
  exact WM.pw_per x0 t
theorem leStep_trans {a s : Nat} {p q r : Pc} (h : leStep a s p q) (g : leStep a s q r) : leStep a s p r := by
  rcases h with h | ⟨h1, h⟩
  · rcases g with g | ⟨g1, g⟩
    · exact .inl (Nat.lt_trans h g)
    · exact .inl (g1 ▸ h)
  · rcases g with g | ⟨g1, g⟩
    · exact .inl (h1 ▸ g)
    · refine .inr ⟨h1.trans g1, ?_⟩
      rcases h with h | rfl
      · rcases g with g | rfl
        · exact .inl (ltP_trans h g)
        · exact .inl h
      · exact g
theorem step_of {a s : Nat} (a1 : 1 ≤ a) {z : List Nat} (ne : z ≠ []) {p : Pc} (hp : p ∈ opts z) (hm : ∀ q ∈ opts z, leStep a s p q) : StepOk a s z p := by
  have r0 := WM.rootN_pos ne
  have n0 := List.length_pos_iff.mpr ne
  have rp := WM.root_pw ne
  have fine : ∀ q ∈ opts z, WM.pw q.1 q.2 = z ∧ Okp q := fun q hq => by
    rcases List.mem_cons.mp hq with rfl | hq
    · exact ⟨pw_one z, ne, Nat.le_refl 1⟩
    · split at hq
      · rename_i lt
        rw [List.mem_singleton.mp hq]
        refine ⟨rp.symm, fun e => ?_, Nat.div_pos (Nat.le_of_lt lt) r0⟩
        have := congrArg List.length e
        rw [List.length_take, List.length_nil] at this
        omega
      · cases hq
  refine ⟨(fine p hp).1, (fine p hp).2, fun q hq oq => ?_⟩
  obtain ⟨x, t⟩ := q
  have hq : WM.pw x t = z := hq
  have lq : x.length * t = z.length := by rw [← hq]; exact (WM.pw_len _ _).symm
  have x0 : 0 < x.length := List.length_pos_iff.mpr oq.1
  have t1 : 1 ≤ t := oq.2
  by_cases e : t = 1
  · subst e
    rw [pw_one] at hq
    subst hq
    exact hm _ List.mem_cons_self
  · have t2 : 2 ≤ t := by omega
    have dv : WM.rootN z ∣ x.length := WM.root_div ne x0 ⟨t, lq.symm⟩ (per_of_pw oq.1 hq)
    have rx := Nat.le_of_dvd x0 dv
    have xz : x.length < z.length := by
      rw [← lq]
      have := Nat.mul_le_mul_left x.length t2
      omega
    have lt : WM.rootN z < z.length := by omega
    have mem : (z.take (WM.rootN z), z.length / WM.rootN z) ∈ opts z := by
      unfold opts
      rw [if_pos lt]
      exact List.mem_cons_of_mem _ List.mem_cons_self
    refine leStep_trans (hm _ mem) ?_
    have k2 : ¬ z.length / WM.rootN z = 1 := fun e => by
      have := Nat.div_mul_cancel (WM.rootN_dvd z)
      rw [e] at this
      omega
    have lr : (z.take (WM.rootN z)).length = WM.rootN z := by rw [List.length_take]; omega
    unfold leStep c1
    rw [if_neg k2, if_neg e, lr]
    by_cases er : WM.rootN z = x.length
    · refine .inr ⟨by rw [er], .inr ?_⟩
      have hx : z.take x.length = x := by
        rw [← hq]
        obtain ⟨k, rfl⟩ : ∃ k, t = k + 1 := ⟨t - 1, by omega⟩
        have : WM.pw x (k + 1) = x ++ WM.pw x k := by
          unfold WM.pw
          rw [List.replicate_succ, List.flatten_cons]
        rw [this, List.take_left]
      rw [er, hx, ← lq, Nat.mul_div_cancel_left _ x0]
    · refine .inl ?_
      have : WM.rootN z * a < x.length * a := Nat.mul_lt_mul_of_pos_right (by omega) a1
      show WM.rootN z * a + s < x.length * a + s
      omega
/-- an entry: what is paid, how many, the first piece, where it ends -/
def leEnt (c n : Nat) (p : Pc) (h : Nat) (c' n' : Nat) (p' : Pc) (h' : Nat) : Prop := c < c' ∨ (c = c' ∧ (n < n' ∨ (n = n' ∧ (ltP p p' ∨ (p = p' ∧ h ≤ h')))))
theorem best_step {a s : Nat} {w : List Nat} (ne : w ≠ []) (p : Nat → Pc) (B : Nat → List Pc) (hp : ∀ k, 1 ≤ k → k ≤ w.length → StepOk a s (w.take k) (p k)) (hB : ∀ k, 1 ≤ k → k ≤ w.length → Best a s (w.drop k) (B k)) (t : Nat) (t1 : 1 ≤ t) (tw : t ≤ w.length)
    (hm : ∀ k, 1 ≤ k → k ≤ w.length → leEnt (c1 a s (p t) + cost a s (B t)) (1 + (B t).length) (p t) t (c1 a s (p k) + cost a s (B k)) (1 + (B k).length) (p k) k) : Best a s w (p t :: B t) := by
  obtain ⟨p1, p2, p3⟩ := hp t t1 tw
  obtain ⟨⟨b1, b2⟩, b3⟩ := hB t t1 tw
  refine ⟨⟨by rw [spell, p1, b1, List.take_append_drop], fun q hq => ?_⟩, fun V hV => ?_⟩
  · rcases List.mem_cons.mp hq with rfl | hq
    · exact p2
    · exact b2 q hq
  cases V with
  | nil => exact absurd hV.1.symm ne
  | cons q V =>
    obtain ⟨h1, h2⟩ := hV
    have oq := h2 q List.mem_cons_self
    obtain ⟨k, hk⟩ : ∃ k, k = q.1.length * q.2 := ⟨_, rfl⟩
    have lk : (WM.pw q.1 q.2).length = k := by rw [hk]; exact pw_lenP q
    have k1 : 1 ≤ k := by rw [hk]; exact okp_pos oq
    rw [spell] at h1
    have kw : k ≤ w.length := by rw [← h1, List.length_append]; omega
    have tk : w.take k = WM.pw q.1 q.2 := by rw [← h1, ← lk, List.take_left]
    have dk : w.drop k = spell V := by rw [← h1, ← lk, List.drop_left]
    obtain ⟨s1, s2, s3⟩ := hp k k1 kw
    have ls := s3 q tk.symm oq
    have lb := (hB k k1 kw).2 V ⟨dk.symm, fun r hr => h2 r (List.mem_cons_of_mem _ hr)⟩
    have le := hm k k1 kw
    show c1 a s (p t) + cost a s (B t) < c1 a s q + cost a s V ∨ (c1 a s (p t) + cost a s (B t) = c1 a s q + cost a s V ∧ ((B t).length + 1 < V.length + 1 ∨ ((B t).length + 1 = V.length + 1 ∧ leL (p t :: B t) (q :: V))))
    unfold leStep at ls
    unfold leR at lb
    unfold leEnt at le
    have ls' : c1 a s (p k) ≤ c1 a s q := by rcases ls with h | ⟨h, _⟩ <;> omega
    have lb' : cost a s (B k) ≤ cost a s V := by rcases lb with h | ⟨h, _⟩ <;> omega
    rcases le with le | ⟨le, ln⟩
    · exact .inl (by omega)
    by_cases eq1 : c1 a s (p k) = c1 a s q ∧ cost a s (B k) = cost a s V
    · obtain ⟨e1, e2⟩ := eq1
      refine .inr ⟨by omega, ?_⟩
      have ls2 : ltP (p k) q ∨ p k = q := by
        rcases ls with h | ⟨_, h⟩
        · omega
        · exact h
      have lb2 : (B k).length < V.length ∨ ((B k).length = V.length ∧ leL (B k) V) := by
        rcases lb with h | ⟨_, h⟩
        · omega
        · exact h
      rcases lb2 with lb2 | ⟨lb2, lb3⟩
      · refine .inl ?_
        rcases ln with h | ⟨h, _⟩ <;> omega
      · rcases ln with h | ⟨h, ln⟩
        · exact .inl (by omega)
        · refine .inr ⟨by omega, ?_⟩
          rcases ln with l | ⟨l, _⟩
          · refine .inl ?_
            rcases ls2 with g | g
            · exact ltP_trans l g
            · exact g ▸ l
          · have et : t = k := by
              have e3 := congrArg List.length p1
              have e4 := congrArg List.length s1
              rw [List.length_take, l] at e3
              rw [List.length_take] at e4
              omega
            subst et
            rcases ls2 with g | g
            · exact .inl g
            · exact .inr ⟨g, lb3⟩
    · exact .inl (by omega)
/-- one piece after the other, at any place -/
theorem isW_one {w : List Nat} (h : w ≠ []) : IsW w [(w, 1)] := ⟨by rw [spell, pw_one, spell, List.append_nil], fun p hp => by rw [List.mem_singleton.mp hp]; exact ⟨h, Nat.le_refl 1⟩⟩
theorem isW_signs : ∀ w : List Nat, IsW w (w.map fun c => ([c], 1))
  | [] => ⟨rfl, fun p h => absurd h List.not_mem_nil⟩
  | c :: r => by
    obtain ⟨h1, h2⟩ := isW_signs r
    refine ⟨by rw [List.map_cons, spell, pw_one, h1]; rfl, fun p hp => ?_⟩
    rcases List.mem_cons.mp hp with rfl | hp
    · exact ⟨List.cons_ne_nil _ _, Nat.le_refl 1⟩
    · exact h2 p hp
end LP

set_option Elab.async false
set_option linter.all false
set_option maxRecDepth 100000
set_option maxHeartbeats 4000000
namespace K61
open PySem PySem.Spec PyProof.Rows L2 CK SX NM
/-- the roots' sizes of all beginnings -/
def rts (z : List Nat) : List Nat := (List.range z.length).map fun j => WM.rootN (z.take (j + 1))
theorem rts_len (z : List Nat) : (rts z).length = z.length := by simp [rts]
theorem rts_get {z : List Nat} {j : Nat} (h : j < z.length) : (rts z)[j]? = some (WM.rootN (z.take (j + 1))) := by
  unfold rts
  rw [List.getElem?_map, List.getElem?_range h]
  rfl
section
variable {P : Program} {w : World} {K : PySem.W.Frag} {mg : Str → Option Value} {base : Heap} {C : Addr}
def sp_root_sizes : Sp := fun vs H Q _ => ∃ (z : List Nat), vs = [.str (S z)] ∧ z.length ≤ 1000 ∧ ∀ p H', Same H H' → H p = none → H' p = some (.lst (natsV (rts z))) → Q (.ref p) H'
theorem c_root_sizes (T : Txt K mg C) : C8.Cal P w K mg base 2 "root_sizes" sp_root_sizes [] := by
  refine calF T.d_root_sizes sc_root_sizes (fun vs H Q E h => ?_) (fun f cdv A outer s H vs Q E hr h => ?_)
  · obtain ⟨_, rfl, _⟩ := h; rfl
  · obtain ⟨z, rfl, hz, q⟩ := h
    refine ⟨_, (pss_cons (ps_set (i := 1) sc_root_sizes.nd rfl (Or.inl rfl) (pe_lst pa_nil))
    (pss_cons (ps_for PassesOwn.never rfl (pi_enum1 (by rfl) T.m_enumerate (pa_cons (C8.pe_c (c_border_sizes T) hr (by decide) (by rfl) (pa_cons (pv 0) pa_nil)) pa_nil) pe_int) (pg_two (K := K) (i := 2) (j := 3) rfl rfl sc_root_sizes.nd rfl rfl (Or.inl rfl) (Or.inl rfl))
    (pss_cons (ps_set (i := 4) sc_root_sizes.nd rfl (Or.inl rfl) (pe_op op_sub (pv 2) (pv 3)))
    (pss_one (ps_expr (pe_bm PySem.F.plainAttrs_list PySem.F.slot_list_append PySem.F.type_list_append mt_append (pv 1) (pa_cons (pe_ifExp (pt_truth (pe_op op_modN (pv 2) (pv 4)) (by intro _; rfl)) (pv 2) (pv 4)) pa_nil))))))
    (pss_one (ps_ret (pv 1))))), ?_⟩
    refine ⟨by show 0 ≤ sizeLine; decide, fun L nL => ?_⟩
    have s0 := sameNew (o := .lst []) nL
    have h0 : upd H L (.lst []) L = some (.lst (natsV [])) := upd_same
    generalize upd H L (.lst []) = H1 at s0 h0 ⊢
    dsimp only
    rw [gname_eq]
    refine ⟨_, rfl, z, rfl, by omega, fun e H2 s2 ne he => ⟨e, _, rfl, .inl (.inl he), rfl, ?_⟩⟩
    have h2 := s2 _ _ h0
    have neL : e ≠ L := fun x => by rw [x, h0] at ne; cases ne
    refine for_it (walk_enum1 (K := K) (a := e) (xs := natsV (szL z (z.length - 1)))) (fun i σ H' => SameX L H2 H' ∧ ∃ (y2 y3 y4 : Option V), σ = [some (.str (S z)), some (.ref L), y2, y3, y4] ∧ H' L = some (.lst (natsV ((rts z).take i)))) ⟨.refl _ _, none, none, none, rfl, h2⟩ (fun i σ H' _ p => .inl (.inl (p.1 _ _ neL he))) (fun i v σ H' H'' hi p yy => ?_) fun σ H' p => ?_
    · obtain ⟨sx, y2, y3, y4, rfl, hL⟩ := p
      obtain ⟨t, x, y, rfl, nt, rfl, e1, e2⟩ := yy
      cases Option.some.inj e1
      obtain ⟨n, hn, hn2, rfl⟩ := get_nat e2
      have iz : i < z.length := by rw [← szL_len z (z.length - 1)]; exact (List.getElem?_eq_some_iff.mp hn2).1
      rw [szL_get (by omega) iz] at hn2
      cases Option.some.inj hn2
      have st := sameNew (o := .tup [V.int (i + 1 : Nat), V.int (WM.lb (z.take (i + 1)) : Nat)]) nt
      have lt : (z.take (i + 1)).length = i + 1 := by rw [List.length_take]; omega
      have neT : z.take (i + 1) ≠ [] := fun e => by rw [e] at lt; cases lt
      have lb1 := WM.lb_lt neT
      have hr' := rts_get iz
      unfold WM.rootN at hr'
      rw [lt] at hr' lb1
      obtain ⟨b, hb⟩ : ∃ b, b = WM.lb (z.take (i + 1)) := ⟨_, rfl⟩
      rw [← hb] at hr' lb1 st ⊢
      have hLt := st _ _ hL
      refine ⟨t, _, rfl, .inl (.inl upd_same), rfl, _, _, rfl, _, _, rfl, rfl, ?_⟩
      refine ⟨_, rfl, _, rfl, _, _, rfl, rfl, ?_⟩
      dsimp only
      rw [gname_eq, show ((i + 1 : Nat) : Int) - (b : Int) = ((i + 1 - b : Nat) : Int) by omega]
      have ef : ((i + 1 : Nat) : Int).fmod ((i + 1 - b : Nat) : Int) = (((i + 1) % (i + 1 - b) : Nat) : Int) := by
        rw [Int.fmod_eq_emod_of_nonneg _ (by omega)]
        rfl
      have fin : ∀ r : Nat, (rts z)[i]? = some r → SameX L H2 (upd (upd H' t (.tup [V.int (i + 1 : Nat), V.int (b : Nat)])) L (.lst (natsV ((rts z).take i) ++ [.int (r : Nat)]))) ∧ upd (upd H' t (.tup [V.int (i + 1 : Nat), V.int (b : Nat)])) L (.lst (natsV ((rts z).take i) ++ [.int (r : Nat)])) L = some (.lst (natsV ((rts z).take (i + 1)))) := fun r hr => by
        refine ⟨(sx.trans (.of st)).trans sameX_upd, ?_⟩
        rw [upd_same, List.take_succ, hr]
        unfold natsV
        rw [List.map_append]
        rfl
      refine ⟨_, rfl, .inl ⟨rfl, _, .inl (.inl hLt)⟩, _, rfl, _, rfl, _, _, rfl, rfl, by omega, ?_⟩
      dsimp only
      rw [ef]
      refine ⟨_, rfl, ?_⟩
      have lsz : ((rts z).take i).length ≤ 1000 := by rw [List.length_take, rts_len]; omega
      by_cases m0 : (i + 1) % (i + 1 - b) = 0
      · rw [if_pos m0] at hr'
        rw [show ((((i + 1) % (i + 1 - b) : Nat) : Int) != 0) = false by rw [m0]; rfl]
        refine iteF ⟨_, rfl, L, _, _, rfl, rfl, hLt, by rw [natsV_len, sizeLine_eq]; omega, ?_⟩
        obtain ⟨f1, f2⟩ := fin _ hr'
        exact ⟨f1, _, _, _, rfl, f2⟩
      · rw [if_neg m0] at hr'
        rw [show ((((i + 1) % (i + 1 - b) : Nat) : Int) != 0) = true by rw [bne_iff_ne]; omega]
        refine iteT ⟨_, rfl, L, _, _, rfl, rfl, hLt, by rw [natsV_len, sizeLine_eq]; omega, ?_⟩
        obtain ⟨f1, f2⟩ := fin _ hr'
        exact ⟨f1, _, _, _, rfl, f2⟩
    · obtain ⟨sx, y2, y3, y4, rfl, hL⟩ := p
      rw [natsV_len, szL_len, ← rts_len, List.take_length] at hL
      refine ⟨_, rfl, q L H' (fun b o e => ?_) nL hL⟩
      exact sx _ _ (ne_of_none e nL) (s2 _ _ (s0 _ _ e))
end
end K61

set_option Elab.async false
set_option linter.all false
set_option maxRecDepth 100000
set_option maxHeartbeats 4000000
namespace K61
open PySem PySem.Spec PyProof.Rows L2 CK SX NM PySem.W
open LP (Pc leL leR leStep c1)
/-! ### lists of values with what they stand for -/
inductive All2 {α : Type} (R : V → α → Prop) : List V → List α → Prop
  | nil : All2 R [] []
  | cons {v : V} {vs : List V} {x : α} {xs : List α} : R v x → All2 R vs xs → All2 R (v :: vs) (x :: xs)
theorem All2.len {α : Type} {R : V → α → Prop} {vs : List V} {xs : List α} (h : All2 R vs xs) : vs.length = xs.length := by
  induction h with
  | nil => rfl
  | cons _ _ ih => exact congrArg (· + 1) ih
theorem All2.mono {α : Type} {R R' : V → α → Prop} {vs : List V} {xs : List α} (h : All2 R vs xs) (g : ∀ v x, R v x → R' v x) : All2 R' vs xs := by
  induction h with
  | nil => exact .nil
  | cons r _ ih => exact .cons (g _ _ r) ih
theorem All2.app {α : Type} {R : V → α → Prop} {vs us : List V} {xs ys : List α} (h : All2 R vs xs) (g : All2 R us ys) : All2 R (vs ++ us) (xs ++ ys) := by
  induction h with
  | nil => exact g
  | cons r _ ih => exact .cons r ih
theorem All2.snoc {α : Type} {R : V → α → Prop} {vs : List V} {v : V} {xs : List α} {x : α} (h : All2 R vs xs) (r : R v x) : All2 R (vs ++ [v]) (xs ++ [x]) := h.app (.cons r .nil)
theorem All2.get {α : Type} {R : V → α → Prop} {vs : List V} {xs : List α} (h : All2 R vs xs) : ∀ {i : Nat} {v : V}, vs[i]? = some v → ∃ x, xs[i]? = some x ∧ R v x := by
  induction h with
  | nil => intro i v e; cases e
  | cons r _ ih =>
    intro i v e
    cases i with
    | zero => cases Option.some.inj e; exact ⟨_, rfl, r⟩
    | succ i => exact ih e
theorem All2.at {α : Type} {R : V → α → Prop} {vs : List V} {xs : List α} (h : All2 R vs xs) : ∀ {i : Nat} {x : α}, xs[i]? = some x → ∃ v, vs[i]? = some v ∧ R v x := by
  induction h with
  | nil => intro i v e; cases e
  | cons r _ ih =>
    intro i v e
    cases i with
    | zero => cases Option.some.inj e; exact ⟨_, rfl, r⟩
    | succ i => exact ih e
theorem All2.dps {α : Type} {R : V → α → Prop} {K : PySem.W.Frag} {H : Hp} {d : α → PyData} (g : ∀ v x, R v x → Dp K H v (d x)) {vs : List V} {xs : List α} (h : All2 R vs xs) : DpAll K H vs (xs.map d) := by
  induction h with
  | nil => exact .nil
  | cons r _ ih => exact .cons (g _ _ r) ih
/-! ### the least -/
section
variable {α : Type} [DecidableEq α] [DatumOrd α]
theorem lt_trans {a b c : α} (h : DatumOrd.lt a b = true) (g : DatumOrd.lt b c = true) : DatumOrd.lt a c = true := by
  rw [← DatumOrd.lt_eq] at h g ⊢
  exact lex_trans _ _ _ h g
theorem lt_self (a : α) : DatumOrd.lt a a = false := by
  rw [← DatumOrd.lt_eq]
  exact lex_irrefl _
theorem minOf_mem (x : α) : ∀ xs : List α, minOf x xs ∈ x :: xs := fun xs => by
  unfold minOf
  induction xs generalizing x with
  | nil => exact List.mem_cons_self
  | cons y r ih =>
    rw [List.foldl_cons]
    rcases List.mem_cons.mp (ih (if DatumOrd.lt y x = true then y else x)) with h | h
    · rw [h]
      split
      · exact List.mem_cons_of_mem _ List.mem_cons_self
      · exact List.mem_cons_self
    · exact List.mem_cons_of_mem _ (List.mem_cons_of_mem _ h)
theorem minOf_le (x : α) : ∀ xs : List α, ∀ y ∈ x :: xs, DatumOrd.lt y (minOf x xs) = false := fun xs => by
  have key : ∀ (xs : List α) (x : α), (DatumOrd.lt x (minOf x xs) = false ∧ ∀ y ∈ xs, DatumOrd.lt y (minOf x xs) = false) ∧ (minOf x xs = x ∨ DatumOrd.lt (minOf x xs) x = true) := fun xs => by
    unfold minOf
    induction xs with
    | nil => exact fun x => ⟨⟨lt_self x, fun y h => nomatch h⟩, .inl rfl⟩
    | cons z r ih =>
      intro x
      rw [List.foldl_cons]
      by_cases c : DatumOrd.lt z x = true
      · rw [if_pos c]
        obtain ⟨⟨h1, h2⟩, h3⟩ := ih z
        have lm : DatumOrd.lt (List.foldl (fun a y => if DatumOrd.lt y a = true then y else a) z r) x = true := by
          rcases h3 with h | h
          · rw [h]; exact c
          · exact lt_trans h c
        refine ⟨⟨?_, fun y hy => ?_⟩, .inr lm⟩
        · cases e : DatumOrd.lt x (List.foldl (fun a y => if DatumOrd.lt y a = true then y else a) z r) with
          | false => rfl
          | true =>
            have := lt_trans e lm
            rw [lt_self] at this
            exact this.symm
        · rcases List.mem_cons.mp hy with rfl | hy
          · exact h1
          · exact h2 y hy
      · rw [if_neg c]
        obtain ⟨⟨h1, h2⟩, h3⟩ := ih x
        refine ⟨⟨h1, fun y hy => ?_⟩, h3⟩
        rcases List.mem_cons.mp hy with rfl | hy
        · rcases h3 with h | h
          · rw [h]
            exact Bool.eq_false_iff.mpr c
          · cases e : DatumOrd.lt y (List.foldl (fun a y => if DatumOrd.lt y a = true then y else a) x r) with
            | false => rfl
            | true => exact absurd (lt_trans e h) c
        · exact h2 y hy
  obtain ⟨⟨h1, h2⟩, _⟩ := key xs x
  intro y hy
  rcases List.mem_cons.mp hy with rfl | hy
  · exact h1
  · exact h2 y hy
end
/-! ### pieces, steps, entries, ranks as ordered data -/
abbrev PcT := Str × Tup Int
def pT (p : Pc) : PcT := (S p.1, ⟨[(p.2 : Int)]⟩)
theorem lt_pT (p q : Pc) : DatumOrd.lt (pT p) (pT q) = true ↔ LP.ltP p q := by
  show (if S p.1 = S q.1 then listLt [(p.2 : Int)] [(q.2 : Int)] else decide ((S p.1).cps.toList < (S q.1).cps.toList)) = true ↔ _
  by_cases e : p.1 = q.1
  · rw [if_pos (by rw [e])]
    unfold LP.ltP
    rw [e]
    by_cases e2 : p.2 = q.2
    · rw [listLt, if_pos (by rw [e2]), listLt]
      constructor
      · intro h; cases h
      · rintro (h | ⟨_, h⟩)
        · exact absurd h (List.lt_irrefl _)
        · omega
    · rw [listLt, if_neg (by omega)]
      show decide ((p.2 : Int) < (q.2 : Int)) = true ↔ _
      rw [decide_eq_true_iff]
      constructor
      · exact fun h => .inr ⟨rfl, by omega⟩
      · rintro (h | ⟨_, h⟩)
        · exact absurd h (List.lt_irrefl _)
        · omega
  · rw [if_neg (fun h => e (S_inj h)), decide_eq_true_iff]
    show p.1 < q.1 ↔ _
    exact ⟨.inl, fun h => h.elim id fun h => absurd h.1 e⟩
theorem pT_inj {p q : Pc} (h : pT p = pT q) : p = q := by
  have h1 := congrArg Prod.fst h
  have h2 := congrArg (fun z : PcT => z.2.items) h
  refine Prod.ext (S_inj h1) ?_
  have := (List.cons.inj h2).1
  omega
structure St where
  c : Nat
  p : Pc
  h : Nat
def sT (x : St) : T3 Int PcT Int := ⟨(x.c : Int), pT x.p, (x.h : Int)⟩
theorem lt_sT (x y : St) (e : x.h = y.h) : DatumOrd.lt (sT x) (sT y) = false ↔ y.c < x.c ∨ (y.c = x.c ∧ (LP.ltP y.p x.p ∨ y.p = x.p)) := by
  show (if (x.c : Int) = (y.c : Int) then (if pT x.p = pT y.p then decide ((x.h : Int) < (y.h : Int)) else DatumOrd.lt (pT x.p) (pT y.p)) else decide ((x.c : Int) < (y.c : Int))) = false ↔ _
  by_cases e1 : x.c = y.c
  · rw [if_pos (by omega)]
    by_cases e2 : x.p = y.p
    · rw [if_pos (by rw [e2]), e]
      exact ⟨fun _ => .inr ⟨e1.symm, .inr e2.symm⟩, fun _ => decide_eq_false (by omega)⟩
    · rw [if_neg (fun h => e2 (pT_inj h)), Bool.eq_false_iff, ne_eq, lt_pT]
      constructor
      · intro h
        refine .inr ⟨e1.symm, ?_⟩
        rcases LP.ltP_total x.p y.p with g | g | g
        · exact absurd g h
        · exact absurd g e2
        · exact .inl g
      · rintro (h | ⟨_, h | h⟩) g
        · omega
        · exact LP.ltP_irrefl _ (LP.ltP_trans h g)
        · exact e2 h.symm
  · rw [if_neg (by omega), decide_eq_false_iff_not]
    constructor
    · exact fun h => .inl (by omega)
    · rintro (h | ⟨h, _⟩) <;> omega
/-- a tuple of 5: cost, pieces, the first piece, 0, its end -/
structure En where
  c : Nat
  n : Nat
  p : Pc
  h : Nat
  deriving DecidableEq
def dEn (x : En) : PyData := .tuple [.int (x.c : Nat), .int (x.n : Nat), .tuple [.str (S x.p.1), .tuple [.int (x.p.2 : Nat)]], .int 0, .int (x.h : Nat)]
def ltEn (x y : En) : Bool := if x.c = y.c then (if x.n = y.n then (if x.p = y.p then decide (x.h < y.h) else DatumOrd.lt (pT x.p) (pT y.p)) else decide (x.n < y.n)) else decide (x.c < y.c)
theorem eq_dint (i j : Nat) : PyData.eqv (.int (i : Nat)) (.int (j : Nat)) = decide (i = j) := by
  have := Datum.eqv ((i : Nat) : Int) ((j : Nat) : Int)
  refine this.trans (decide_eq_decide.mpr ⟨fun h => by omega, fun h => by rw [h]⟩)
theorem lt_dint (i j : Nat) : dataLt (.int (i : Nat)) (.int (j : Nat)) = decide (i < j) := (dataLt_int _ _).trans (decide_eq_decide.mpr ⟨fun h => by omega, fun h => by omega⟩)
theorem alike_dint (i j : Nat) : PySem.W.alike (.int (i : Nat)) (.int (j : Nat)) = true := DatumOrd.alike ((i : Nat) : Int) ((j : Nat) : Int)
theorem eq_dp (p q : Pc) : PyData.eqv (Datum.toD (pT p)) (Datum.toD (pT q)) = decide (p = q) := (Datum.eqv (pT p) (pT q)).trans (decide_eq_decide.mpr ⟨pT_inj, fun h => by rw [h]⟩)
theorem toD_pT (p : Pc) : Datum.toD (pT p) = .tuple [.str (S p.1), .tuple [.int (p.2 : Nat)]] := rfl
theorem ltEn_eq (x y : En) : dataLt (dEn x) (dEn y) = ltEn x y := by
  unfold dEn ltEn
  rw [← toD_pT, ← toD_pT]
  refine (dataLt_tuple _ _).trans ?_
  by_cases h0 : x.c = y.c
  · rw [if_pos h0, dataLt_all_yes (alike_dint _ _) (by rw [eq_dint, decide_eq_true_eq]; exact h0)]
    by_cases h1 : x.n = y.n
    · rw [if_pos h1, dataLt_all_yes (alike_dint _ _) (by rw [eq_dint, decide_eq_true_eq]; exact h1)]
      by_cases h2 : x.p = y.p
      · rw [if_pos h2, dataLt_all_yes (DatumOrd.alike (pT x.p) (pT y.p)) (by rw [eq_dp, decide_eq_true_eq]; exact h2), dataLt_all_yes (show PySem.W.alike (.int 0) (.int 0) = true from alike_dint 0 0) (show PyData.eqv (.int 0) (.int 0) = true from (eq_dint 0 0).trans rfl)]
        by_cases h3 : x.h = y.h
        · rw [dataLt_all_yes (alike_dint _ _) (by rw [eq_dint, decide_eq_true_eq]; exact h3), lex_irrefl]
          exact (decide_eq_false (by omega)).symm
        · rw [dataLt_all_no (alike_dint _ _) (by rw [eq_dint, decide_eq_false_iff_not]; exact h3), lt_dint]
      · rw [if_neg h2, dataLt_all_no (DatumOrd.alike (pT x.p) (pT y.p)) (by rw [eq_dp, decide_eq_false_iff_not]; exact h2)]
        exact DatumOrd.lt_eq _ _
    · rw [if_neg h1, dataLt_all_no (alike_dint _ _) (by rw [eq_dint, decide_eq_false_iff_not]; exact h1), lt_dint]
  · rw [if_neg h0, dataLt_all_no (alike_dint _ _) (by rw [eq_dint, decide_eq_false_iff_not]; exact h0), lt_dint]
theorem ltEn_no {x y : En} : ltEn x y = false ↔ LP.leEnt y.c y.n y.p y.h x.c x.n x.p x.h := by
  unfold ltEn LP.leEnt
  by_cases e1 : x.c = y.c
  · rw [if_pos e1]
    by_cases e2 : x.n = y.n
    · rw [if_pos e2]
      by_cases e3 : x.p = y.p
      · rw [if_pos e3, decide_eq_false_iff_not]
        constructor
        · exact fun h => .inr ⟨e1.symm, .inr ⟨e2.symm, .inr ⟨e3.symm, by omega⟩⟩⟩
        · rintro (h | ⟨_, h | ⟨_, h | ⟨_, h⟩⟩⟩)
          · omega
          · omega
          · rw [e3] at h; exact absurd h (LP.ltP_irrefl _)
          · omega
      · rw [if_neg e3, Bool.eq_false_iff, ne_eq, lt_pT]
        constructor
        · intro h
          refine .inr ⟨e1.symm, .inr ⟨e2.symm, .inl ?_⟩⟩
          rcases LP.ltP_total x.p y.p with g | g | g
          · exact absurd g h
          · exact absurd g e3
          · exact g
        · rintro (h | ⟨_, h | ⟨_, h | ⟨h, _⟩⟩⟩) g
          · omega
          · omega
          · exact LP.ltP_irrefl _ (LP.ltP_trans h g)
          · exact e3 h.symm
    · rw [if_neg e2, decide_eq_false_iff_not]
      constructor
      · exact fun h => .inr ⟨e1.symm, .inl (by omega)⟩
      · rintro (h | ⟨_, h | ⟨h, _⟩⟩) <;> omega
  · rw [if_neg e1, decide_eq_false_iff_not]
    constructor
    · exact fun h => .inl (by omega)
    · rintro (h | ⟨h, _⟩) <;> omega
theorem minEn_le (x : En) (xs : List En) : ∃ m, minD (dEn x) (xs.map dEn) = dEn m ∧ m ∈ x :: xs ∧ ∀ y ∈ x :: xs, ltEn y m = false := by
  have tr : ∀ {a b c : En}, ltEn a b = true → ltEn b c = true → ltEn a c = true := fun {a b c} h g => by
    rw [← ltEn_eq] at h g ⊢
    exact lex_trans _ _ _ h g
  have ir : ∀ a : En, ltEn a a = false := fun a => by
    rw [← ltEn_eq]
    exact lex_irrefl _
  induction xs generalizing x with
  | nil => exact ⟨x, rfl, List.mem_cons_self, fun y h => by rw [List.mem_singleton.mp h]; exact ir x⟩
  | cons z r ih =>
    have es : minD (dEn x) ((z :: r).map dEn) = minD (dEn (if ltEn z x = true then z else x)) (r.map dEn) := by
      unfold minD
      rw [List.map_cons, List.foldl_cons, ltEn_eq]
      congr 1
      split <;> rfl
    rw [es]
    obtain ⟨m, h1, h2, h3⟩ := ih (if ltEn z x = true then z else x)
    refine ⟨m, h1, ?_, fun y hy => ?_⟩
    · rcases List.mem_cons.mp h2 with e | e
      · rw [e]
        split
        · exact List.mem_cons_of_mem _ List.mem_cons_self
        · exact List.mem_cons_self
      · exact List.mem_cons_of_mem _ (List.mem_cons_of_mem _ e)
    · have h0 := h3 _ List.mem_cons_self
      rcases List.mem_cons.mp hy with rfl | hy
      · by_cases c : ltEn z y = true
        · rw [if_pos c] at h0
          cases e : ltEn y m with
          | false => rfl
          | true =>
            have := tr c e
            rw [this] at h0
            cases h0
        · rw [if_neg c] at h0
          exact h0
      · rcases List.mem_cons.mp hy with rfl | hy
        · by_cases c : ltEn y x = true
          · rw [if_pos c] at h0
            exact h0
          · rw [if_neg c] at h0
            cases e : ltEn y m with
            | false => rfl
            | true =>
              rcases List.mem_cons.mp h2 with e2 | e2
              · rw [if_neg c] at e2
                rw [e2] at e
                exact absurd e c
              · have nxm := h0
                by_cases cm : ltEn m x = true
                · exact absurd (tr e cm) c
                · have : LP.leEnt x.c x.n x.p x.h m.c m.n m.p m.h := ltEn_no.mp (Bool.eq_false_iff.mpr cm)
                  have g2 : LP.leEnt m.c m.n m.p m.h x.c x.n x.p x.h := ltEn_no.mp h0
                  have em : m = x := by
                    unfold LP.leEnt at this g2
                    have ec : m.c = x.c := by omega
                    rcases this with t | ⟨_, t⟩
                    · omega
                    rcases g2 with g | ⟨_, g⟩
                    · omega
                    have en : m.n = x.n := by omega
                    rcases t with t | ⟨_, t⟩
                    · omega
                    rcases g with g | ⟨_, g⟩
                    · omega
                    rcases t with t | ⟨t1, t2⟩
                    · rcases g with g | ⟨g1, g2⟩
                      · exact absurd (LP.ltP_trans t g) (LP.ltP_irrefl _)
                      · rw [g1] at t; exact absurd t (LP.ltP_irrefl _)
                    · rcases g with g | ⟨g1, g2⟩
                      · rw [t1] at g; exact absurd g (LP.ltP_irrefl _)
                      · cases m; cases x; simp_all; omega
                  rw [em] at e
                  exact absurd e c
        · exact h3 y (List.mem_cons_of_mem _ hy)
end K61

set_option Elab.async false
set_option linter.all false
set_option maxRecDepth 100000
set_option maxHeartbeats 4000000
namespace K61
open PySem PySem.Spec PyProof.Rows L2 CK SX NM PySem.W
open LP (Pc leL leR leStep c1 StepOk opts)
def pn (p : Pc) : Pn := (p.1, [p.2])
/-- tuples stay -/
def TupS (H H' : Hp) : Prop := ∀ b xs, H b = some (.tup xs) → H' b = some (.tup xs)
theorem TupS.of {H H' : Hp} (s : Same H H') : TupS H H' := fun b xs e => s b _ e
theorem TupS.trans {H H' H2 : Hp} (s : TupS H H') (g : TupS H' H2) : TupS H H2 := fun b xs e => g b _ (s b _ e)
theorem TupS.ofX {H H' : Hp} {l : Addr} {xs : List V} (hl : H l = some (.lst xs)) (s : SameX l H H') : TupS H H' := tup_sameX hl s
def StpV (H : Hp) (v : V) (x : St) : Prop := ∃ t pa, v = .ref t ∧ H t = some (.tup [.int (x.c : Nat), .ref pa, .int (x.h : Nat)]) ∧ PC H pa (pn x.p)
theorem StpV.mono {H H' : Hp} {v : V} {x : St} (h : StpV H v x) (s : TupS H H') : StpV H' v x := by
  obtain ⟨t, pa, e, h1, h2⟩ := h
  exact ⟨t, pa, e, s _ _ h1, h2.mono s⟩
def dSt (x : St) : PyData := .tuple [.int (x.c : Nat), .tuple [.str (S x.p.1), .tuple [.int (x.p.2 : Nat)]], .int (x.h : Nat)]
theorem dSt_eq (x : St) : dSt x = Datum.toD (sT x) := rfl
theorem dp_pn {K : PySem.W.Frag} {H : Hp} {pa : Addr} {p : Pc} (h : PC H pa (pn p)) : Dp K H (.ref pa) (.tuple [.str (S p.1), .tuple [.int (p.2 : Nat)]]) := dp_PC h
theorem StpV.dp {K : PySem.W.Frag} {H : Hp} {v : V} {x : St} (h : StpV H v x) : Dp K H v (dSt x) := by
  obtain ⟨t, pa, rfl, h1, h2⟩ := h
  exact .tup (.inl (.inl h1)) (.cons (.int _) (.cons (dp_pn h2) (.cons (.int _) .nil)))
theorem depth_dSt : ∀ xs : List St, PyData.depthAll (xs.map dSt) ≤ 3
  | [] => by simp [PyData.depthAll]
  | x :: r => by
    have := depth_dSt r
    rw [List.map_cons, PyData.depthAll]
    have : (dSt x).depth = 3 := by simp [dSt, PyData.depth, PyData.depthAll]
    omega
theorem alike_dSt (xs : List St) : AlikeAll (xs.map dSt) := by
  have := alikeAll_datum (xs.map sT)
  rw [List.map_map] at this
  exact this
theorem minSt (x : St) (xs : List St) (y : St) (hy : (x :: xs).map dSt = (x :: xs).map dSt) (e : dSt y = minD (dSt x) (xs.map dSt)) (hh : ∀ z ∈ x :: xs, z.h = y.h) : ∀ z ∈ x :: xs, y.c < z.c ∨ (y.c = z.c ∧ (LP.ltP y.p z.p ∨ y.p = z.p)) := by
  have em : minD (dSt x) (xs.map dSt) = Datum.toD (minOf (sT x) (xs.map sT)) := by
    have := minD_map (sT x) (xs.map sT)
    rw [List.map_map] at this
    exact this
  rw [em, dSt_eq] at e
  have inj : sT y = minOf (sT x) (xs.map sT) := by
    have := Datum.eqv (sT y) (minOf (sT x) (xs.map sT))
    rw [e] at this
    have g := Datum.eqv (minOf (sT x) (xs.map sT)) (minOf (sT x) (xs.map sT))
    rw [g, decide_eq_true rfl] at this
    exact of_decide_eq_true this.symm
  intro z hz
  refine (lt_sT z y (hh z hz)).mp ?_
  rw [inj]
  exact minOf_le (sT x) (xs.map sT) (sT z) (by rw [← List.map_cons]; exact List.mem_map_of_mem hz)
theorem dot_c1 {a b c d : Nat} {p : Pc} (h : 1 ≤ p.2) : dotP a b c d (vecP (pn p)) = c1 a (b + d) p := by
  have e : fx (pn p) = decide (p.2 = 1) := by
    unfold fx
    refine decide_eq_decide.mpr ⟨fun h => ?_, fun h => ?_⟩
    · exact (List.cons.inj h).1
    · show [p.2] = one1 0
      rw [h]
      rfl
  unfold dotP vecP e0 e1 e2 e3 c1
  rw [e]
  by_cases k : p.2 = 1
  · rw [decide_eq_true k, if_pos k]
    show p.1.length * a + 0 * b + 0 * c + 0 * d = _
    omega
  · rw [decide_eq_false k, if_neg k]
    have : ¬ (pn p).2.headD 0 = 0 := by show ¬ p.2 = 0; omega
    rw [if_neg this]
    show p.1.length * a + 1 * b + 0 * c + 1 * d = _
    omega
section
variable {P : Program} {w : World} {K : PySem.W.Frag} {mg : Str → Option Value} {base : Heap} {C : Addr}
def PrB (C : Addr) (H : Hp) (pr : Addr) (a b c d : Nat) : Prop := PrO C H pr a b c d ∧ 1 ≤ a ∧ a < 2 ^ 150 ∧ b < 2 ^ 150 ∧ c < 2 ^ 150 ∧ d < 2 ^ 150
theorem PrB.same {C : Addr} {H H' : Hp} {pr : Addr} {a b c d : Nat} (h : PrB C H pr a b c d) (s : Same H H') : PrB C H' pr a b c d := ⟨h.1.same s, h.2⟩
def sp_priced : Sp := fun vs H Q _ => ∃ (pa pr : Addr) (p : Pc) (h a b c d : Nat), vs = [.ref pa, .int h, .ref pr] ∧ PC H pa (pn p) ∧ Low p.1 ∧ p.1.length ≤ 1000 ∧ 1 ≤ p.2 ∧ PrB C H pr a b c d ∧ ∀ v H', Same H H' → StpV H' v ⟨c1 a (b + d) p, p, h⟩ → Q v H'
theorem c_priced_step (T : Txt K mg C) : C8.Cal P w K mg base 5 "priced_step" (sp_priced (C := C)) [] := by
  refine calF T.d_priced_step sc_priced_step (fun vs H Q E h => ?_) (fun f cdv A outer s H vs Q E hr h => ?_)
  · obtain ⟨_, _, _, _, _, _, _, _, rfl, _⟩ := h; rfl
  · obtain ⟨pa, pr, p, h, a, b, c, d, rfl, pc, low, wl, p1, ⟨po, a1, ab, bb, cb, db⟩, q⟩ := h
    refine ⟨_, (pss_one (ps_ret (pe_tup (pa_cons (C8.pe_mt (m_Prices_of T) hr (by decide) (pv 2) (pa_cons (C8.pe_c (c_piece_vector T) hr (by decide) (by rfl) (pa_cons (pv 0) pa_nil)) pa_nil)) (pa_cons (pv 0) (pa_cons (pv 1) pa_nil)))))), ?_⟩
    obtain ⟨dx, hp⟩ := id po
    have no : (FP a b c d).lookup ("of" : Str) = none := fp_no a b c d (by decide +kernel) (by decide +kernel) (by decide +kernel) (by decide +kernel)
    refine ⟨_, rfl, pr, dx, _, rfl, hp, no, _, rfl, pa, pn p, 0, rfl, pc, rfl, by decide, low, by show p.1.length ≤ 2000; omega, fun t H1 s1 ht => ?_⟩
    have up : ∀ {n : Nat}, n < 2 ^ 150 → n < 2 ^ 200 := fun h => Nat.lt_of_lt_of_le h (by decide)
    have l0 : (pn p).1.length = p.1.length := rfl
    refine ⟨pr, t, a, b, c, d, _, _, _, _, rfl, po.same s1, ht, up ab, up bb, up cb, up db, ?_, ?_, ?_, ?_, fun H2 s2 => ?_⟩
    · show p.1.length < _
      exact Nat.lt_of_le_of_lt wl (by decide)
    · unfold e1; split <;> decide
    · unfold e2
      split
      · decide
      · show ([] : List Nat).length < _
        decide
    · unfold e3
      split
      · decide
      · split <;> decide
    rw [show dotP a b c d [e0 (pn p), e1 (pn p), e2 (pn p), e3 (pn p)] = c1 a (b + d) p from dot_c1 p1]
    refine ⟨_, rfl, _, rfl, by show 3 ≤ sizeLine; decide, fun u nu => ?_⟩
    have s12 := s1.trans s2
    have su := sameNew (o := .tup [.int (c1 a (b + d) p : Nat), .ref pa, .int (h : Nat)]) nu
    exact q (.ref u) _ (s12.trans su) ⟨u, pa, rfl, upd_same, (pc.mono (tup_same (s12.trans su)))⟩
end
end K61

set_option Elab.async false
set_option linter.all false
set_option maxRecDepth 100000
set_option maxHeartbeats 4000000
namespace K61
open PySem PySem.Spec PyProof.Rows L2 CK SX NM PySem.W
open LP (Pc leL leR leStep c1 StepOk opts)
def RowP (a s : Nat) (z : List Nat) (low : Nat) (es : List St) : Prop := es.length = z.length - low ∧ ∀ k x, es[k]? = some x → x.h = low + (k + 1) ∧ x.c = c1 a s x.p ∧ StepOk a s ((z.drop low).take (k + 1)) x.p ∧ Low x.p.1
def RowH (a s : Nat) (z : List Nat) (H : Hp) (r low : Nat) : Prop := ∃ vs es, H r = some (.lst vs) ∧ All2 (StpV H) vs es ∧ RowP a s z low es
theorem RowH.sameX {a s : Nat} {z : List Nat} {H H' : Hp} {r low L : Addr} {xs : List V} (h : RowH a s z H r low) (ne : r ≠ L) (hl : H L = some (.lst xs)) (sx : SameX L H H') : RowH a s z H' r low := by
  obtain ⟨vs, es, h1, h2, h3⟩ := h
  exact ⟨vs, es, sx _ _ ne h1, h2.mono fun v x g => g.mono (TupS.ofX hl sx), h3⟩
theorem RowH.same {a s : Nat} {z : List Nat} {H H' : Hp} {r low : Addr} (h : RowH a s z H r low) (sx : Same H H') : RowH a s z H' r low := by
  obtain ⟨vs, es, h1, h2, h3⟩ := h
  exact ⟨vs, es, sx _ _ h1, h2.mono fun v x g => g.mono (TupS.of sx), h3⟩
theorem joinS {a u : TS} {D : Ends} {σ : L2.St} {H : Hp} (Pre : L2.St → Hp → Prop) (rest : ∀ σ' H', Pre σ' H' → u D σ' H') (m : ∀ U : TS, (∀ σ' H', Pre σ' H' → U D σ' H') → tSeq a U D σ H) : tSeq a u D σ H := m u rest
def PcV (H : Hp) (v : V) (p : Pc) : Prop := ∃ pa, v = .ref pa ∧ PC H pa (pn p)
theorem PcV.mono {H H' : Hp} {v : V} {x : Pc} (h : PcV H v x) (s : TupS H H') : PcV H' v x := by
  obtain ⟨pa, e, h2⟩ := h
  exact ⟨pa, e, h2.mono s⟩
theorem opts_low {z : List Nat} (h : Low z) : ∀ p ∈ opts z, Low p.1 ∧ p.1.length ≤ z.length := fun p hp => by
  rcases List.mem_cons.mp hp with rfl | hp
  · exact ⟨h, Nat.le_refl _⟩
  · split at hp
    · rw [List.mem_singleton.mp hp]
      exact ⟨low_take h _, by rw [List.length_take]; omega⟩
    · cases hp
section
variable {P : Program} {w : World} {K : PySem.W.Frag} {mg : Str → Option Value} {base : Heap} {C : Addr}
def sp_pform : Sp := fun vs H Q _ => ∃ (n : Nat), vs = [.int n, .int 0] ∧ ∀ p H', Same H H' → FT H' p [n] → Q (.ref p) H'
theorem c_plain_form (T : Txt K mg C) : C8.Cal P w K mg base 1 "plain_form" sp_pform [] := by
  refine calF T.d_plain_form sc_plain_form (fun vs H Q E h => ?_) (fun f cdv A outer s H vs Q E hr h => ?_)
  · obtain ⟨_, rfl, _⟩ := h; rfl
  · obtain ⟨n, rfl, q⟩ := h
    refine ⟨_, (pss_one (ps_ret (pe_op op_catS (pe_tup (pa_cons (pv 0) pa_nil)) (pe_op op_repOne (pe_tup (pa_cons pe_int pa_nil)) (pv 1))))), ?_⟩
    refine ⟨_, rfl, by show 1 ≤ sizeLine; decide, fun t1 n1 => ⟨by decide, fun t2 n2 => ⟨_, rfl, t2, _, _, rfl, rfl, upd_same, by omega, by omega, fun p H' s hp => ?_⟩⟩⟩
    have e1 : H' t1 = some (.tup [.int n]) := s _ _ (by rw [upd_ne (ne_of_none upd_same n2)]; exact upd_same)
    refine ⟨t1, p, _, _, rfl, rfl, e1, hp, by simp, fun p2 H2 s2 h2 => q p2 H2 (((sameNew n1).trans (sameNew n2)).trans (s.trans s2)) ?_⟩
    unfold FT
    rw [h2]
    simp
def sp_plain_steps : Sp := fun vs H Q _ => ∃ (z : List Nat) (pr : Addr) (a b c d : Nat), vs = [.str (S z), .int 0, .ref pr] ∧ Low z ∧ z.length ≤ 200 ∧ PrB C H pr a b c d ∧ ∀ L H' us, Same H H' → H L = none → H' L = some (.lst us) → us.length = z.length + 1 → (∀ low v, us[low]? = some v → ∃ r, v = .ref r ∧ RowH a (b + d) z H' r low) → Q (.ref L) H'
theorem c_plain_steps (T : Txt K mg C) : C8.Cal P w K mg base 6 "plain_steps" (sp_plain_steps (C := C)) [] := by
  refine calF T.d_plain_steps sc_plain_steps (fun vs H Q E h => ?_) (fun f cdv A outer s H vs Q E hr h => ?_)
  · obtain ⟨_, _, _, _, _, _, rfl, _⟩ := h; rfl
  · obtain ⟨z, pr, a, b, c, d, rfl, low, zl, pb, q⟩ := h
    refine ⟨_, (pss_cons (ps_set (i := 3) sc_plain_steps.nd rfl (Or.inl rfl) (pe_lst pa_nil))
    (pss_cons (ps_for PassesOwn.never rfl (pi_range1 (by rfl) T.m_range (pa_cons (pe_op op_add (pe_callB call_len_str (by rfl) T.m_len (by decide +kernel) (pa_cons (pv 0) pa_nil)) pe_int) pa_nil)) (pg_name (i := 4) sc_plain_steps.nd rfl (Or.inr rfl))
    (pss_cons (ps_par (i := 5) (j := 6) (by rfl) sc_plain_steps.nd rfl rfl (by decide) rfl rfl (pa_cons (pe_slice C8.sl_txt (pv 0) (po_some (pv 4)) po_none) (pa_cons (pe_lst pa_nil) pa_nil)) (by rfl))
    (pss_cons (ps_for PassesOwn.never rfl (pi_enum1 (by rfl) T.m_enumerate (pa_cons (C8.pe_c (c_root_sizes T) hr (by decide) (by rfl) (pa_cons (pv 5) pa_nil)) pa_nil) pe_int) (pg_two (K := K) (i := 7) (j := 8) rfl rfl sc_plain_steps.nd rfl rfl (Or.inr rfl) (Or.inl rfl))
    (pss_cons (ps_set (i := 9) sc_plain_steps.nd rfl (Or.inl rfl) (pe_lst (pa_cons (C8.pe_c (c_fixed_piece T) hr (by decide) (by rfl) (pa_cons (pe_slice C8.sl_txt (pv 5) po_none (po_some (pv 7))) (pa_cons (pv 1) pa_nil))) pa_nil)))
    (pss_cons (ps_if (pt_cmpR op_lt (pv 8) (pv 7) (nomark _))
    (pss_one (ps_expr (pe_bm PySem.F.plainAttrs_list PySem.F.slot_list_append PySem.F.type_list_append mt_append (pv 9) (pa_cons (pe_tup (pa_cons (pe_slice C8.sl_txt (pv 5) po_none (po_some (pv 8))) (pa_cons (C8.pe_c (c_plain_form T) hr (by decide) (by rfl) (pa_cons (pe_op op_fdivW (pv 7) (pv 8)) (pa_cons (pv 1) pa_nil))) pa_nil))) pa_nil))))
    pss_nil)
    (pss_one (ps_expr (pe_bm PySem.F.plainAttrs_list PySem.F.slot_list_append PySem.F.type_list_append mt_append (pv 6) (pa_cons (pe_callB (cr_minA rfl hr.units) (by rfl) T.m_min (by decide +kernel) (pa_cons (pe_lc (own := [("piece", 10)]) (by rfl) sc_plain_steps.nd (pi_list (pv 9)) (blkOk_by (N := ["bare", "many", "prices", "rows", "low", "rest", "steps", "size", "root", "pieces", "piece"]) (sc := C8.fnScope (topS 27)) (own := [("piece", 10)]) (by decide +kernel)) (fun _ _ _ _ _ => (pg_name (i := 10) sc_plain_steps.nd rfl (Or.inl rfl))) (fun _ _ _ _ _ => pts_nil) (fun _ _ _ _ _ => (C8.pe_c (c_priced_step T) hr (by decide) (by rfl) (pa_cons (pv 10) (pa_cons (pe_op op_add (pv 4) (pv 7)) (pa_cons (pv 2) pa_nil)))))) pa_nil)) pa_nil)))))))
    (pss_one (ps_expr (pe_bm PySem.F.plainAttrs_list PySem.F.slot_list_append PySem.F.type_list_append mt_append (pv 3) (pa_cons (pv 6) pa_nil)))))))
    (pss_one (ps_ret (pv 3))))), ?_⟩
    refine ⟨by show 0 ≤ sizeLine; decide, fun L nL => ?_⟩
    have s0 := sameNew (o := .lst []) nL
    have h0 : upd H L (.lst []) L = some (.lst []) := upd_same
    generalize upd H L (.lst []) = H1 at s0 h0 ⊢
    dsimp only
    rw [gname_eq]
    refine ⟨_, rfl, S z, rfl, len_line (by omega), _, 1, rfl, rfl, ((z.length + 1 : Nat) : Int), by rw [S_len]; rfl, by omega, by omega, ?_⟩
    refine for_it walk_range (fun i σ HH => SameX L H1 HH ∧ i ≤ z.length + 1 ∧ ∃ (y4 y5 y6 y7 y8 y9 y10 : Option V) (us : List V), σ = [some (.str (S z)), some (.int 0), some (.ref pr), some (.ref L), y4, y5, y6, y7, y8, y9, y10] ∧ HH L = some (.lst us) ∧ us.length = i ∧ ∀ low v, us[low]? = some v → ∃ r, v = .ref r ∧ r ≠ L ∧ RowH a (b + d) z HH r low) ⟨.refl _ _, Nat.zero_le _, none, none, none, none, none, none, none, [], rfl, h0, rfl, fun low v h => nomatch h⟩ (fun _ _ _ _ _ => True.intro) (fun i x σ HH HH' hi p yy => ?_) fun σ HH p => ?_
    · obtain ⟨sx, _, y4, y5, y6, y7, y8, y9, y10, us, rfl, hL, lus, rows⟩ := p
      obtain ⟨rfl, rfl⟩ := yy
      have iz : i < z.length + 1 := by
        have : i < ((z.length + 1 : Nat) : Int).toNat := hi
        omega
      rw [gname_eq]
      dsimp only
      rw [Int.zero_add]
      refine ⟨_, rfl, _, rfl, (i : Nat), rfl, S z, rfl, len_line (by omega), by show 0 ≤ sizeLine; decide, fun Sa nS => ⟨_, _, rfl, ?_⟩⟩
      rw [SX.slice_from (by omega), Int.toNat_natCast]
      have sS := sameNew (o := .lst []) nS
      have hS : upd HH' Sa (.lst []) Sa = some (.lst []) := upd_same
      generalize upd HH' Sa (.lst []) = H2 at sS hS ⊢
      obtain ⟨rest, hrest⟩ : ∃ rest, rest = z.drop i := ⟨_, rfl⟩
      have lrest : rest.length = z.length - i := by rw [hrest, List.length_drop]
      have lowR : Low rest := by rw [hrest]; exact low_drop low _
      rw [← hrest]
      refine ⟨_, rfl, rest, rfl, by omega, fun e H3 s3 ne he => ⟨e, _, rfl, .inl (.inl he), rfl, ?_⟩⟩
      have hS3 := s3 _ _ hS
      have neS : e ≠ Sa := fun x => by rw [x, hS] at ne; cases ne
      have x13 : SameX L H1 H3 := sx.trans (.of (sS.trans s3))
      have hL3 := s3 _ _ (sS _ _ hL)
      have SL : Sa ≠ L := fun x => by rw [x, hL] at nS; cases nS
      have pb3 : PrB C H3 pr a b c d := by
        refine ⟨?_, pb.2⟩
        obtain ⟨dx, hp⟩ := pb.1
        exact ⟨dx, x13 _ _ (ne_of_none hp nL) (s0 _ _ hp)⟩
      refine for_it (walk_enum1 (K := K) (a := e) (xs := natsV (rts rest))) (fun k σ HB => SameX Sa H3 HB ∧ ∃ (y7 y8 y9 y10 : Option V) (vs : List V) (es : List St), σ = [some (.str (S z)), some (.int 0), some (.ref pr), some (.ref L), some (.int (i : Nat)), some (.str (S rest)), some (.ref Sa), y7, y8, y9, y10] ∧ HB Sa = some (.lst vs) ∧ All2 (StpV HB) vs es ∧ es.length = k ∧ ∀ j x, es[j]? = some x → x.h = i + (j + 1) ∧ x.c = c1 a (b + d) x.p ∧ StepOk a (b + d) ((z.drop i).take (j + 1)) x.p ∧ Low x.p.1) ⟨.refl _ _, y7, y8, y9, y10, [], [], rfl, hS3, .nil, rfl, fun j x h => nomatch h⟩ (fun k σ HB _ p => .inl (.inl (p.1 _ _ neS he))) (fun k v σ HB HB' hi p yy => ?_) fun σ HB p => ?_
      · obtain ⟨sB, y7, y8, y9, y10, vs, es, rfl, hSB, av, les, ev⟩ := p
        obtain ⟨t, x, y, rfl, nt, rfl, e1, e2⟩ := yy
        cases Option.some.inj e1
        obtain ⟨r, hr0, hr1, rfl⟩ := get_nat e2
        have kz : k < rest.length := by rw [← rts_len]; exact (List.getElem?_eq_some_iff.mp hr1).1
        rw [rts_get kz] at hr1
        have st := sameNew (o := .tup [V.int (k + 1 : Nat), V.int (r : Nat)]) nt
        obtain ⟨z', hz'⟩ : ∃ z', z' = rest.take (k + 1) := ⟨_, rfl⟩
        rw [← hz'] at hr1
        have er : WM.rootN z' = r := Option.some.inj hr1
        have lz' : z'.length = k + 1 := by rw [hz', List.length_take]; omega
        have ne' : z' ≠ [] := fun x => by rw [x] at lz'; cases lz'
        have r0 := WM.rootN_pos ne'
        have rl := WM.rootN_le ne'
        rw [er] at r0 rl
        have lowz : Low z' := by rw [hz']; exact low_take lowR _
        refine ⟨t, _, rfl, .inl (.inl upd_same), rfl, _, _, rfl, _, _, rfl, rfl, ?_⟩
        refine ⟨_, rfl, _, rfl, (k + 1 : Nat), rfl, S rest, rfl, len_line (by omega), _, rfl, z', 0, ?_, by omega, fun p1 H5 s5 pc1 => ⟨by show 1 ≤ sizeLine; decide, fun Pa nP => ?_⟩⟩
        · rw [SX.slice_to (by omega), Int.toNat_natCast, hz']
          rfl
        have s6 := sameNew (o := .lst [.ref p1]) nP
        have hP : upd H5 Pa (.lst [.ref p1]) Pa = some (.lst [.ref p1]) := upd_same
        have sB6 := st.trans (s5.trans s6)
        have pc6 : PcV (upd H5 Pa (.lst [.ref p1])) (.ref p1) (z', 1) := ⟨p1, rfl, pc1.mono (tup_same s6)⟩
        have nPB : HB Pa = none := (st.trans s5).free nP
        generalize upd H5 Pa (.lst [.ref p1]) = H6 at s6 hP sB6 pc6 ⊢
        have hS6 := sB6 _ _ hSB
        have PS : Pa ≠ Sa := fun x => by rw [x, hSB] at nPB; cases nPB
        dsimp only
        rw [gname_eq]
        refine joinS (a := tIfS _ _ _) (fun σ' HX => σ' = [some (.str (S z)), some (.int 0), some (.ref pr), some (.ref L), some (.int (i : Nat)), some (.str (S rest)), some (.ref Sa), some (.int (k + 1 : Nat)), some (.int (r : Nat)), some (.ref Pa), y10] ∧ SameX Pa H6 HX ∧ ∃ ws, HX Pa = some (.lst ws) ∧ All2 (PcV HX) ws (opts z')) (fun σ' HX p => ?_) fun U hU => ?_
        rotate_left
        · refine ⟨_, rfl, _, rfl, _, _, rfl, rfl, _, rfl, ?_⟩
          by_cases cr : r < k + 1
          · rw [decide_eq_true (show ((r : Nat) : Int) < ((k + 1 : Nat) : Int) by omega)]
            have eo : opts z' = [(z', 1)] ++ [(z'.take r, (k + 1) / r)] := by
              unfold opts
              rw [er, lz', if_pos cr]
              rfl
            refine iteT ⟨_, rfl, .inl ⟨rfl, _, .inl (.inl hP)⟩, _, rfl, _, rfl, (r : Nat), rfl, S rest, rfl, len_line (by omega), _, rfl, _, rfl, _, _, rfl, rfl, wide_div (b := 100) (by omega) (by rw [Int.natAbs_natCast]; exact Nat.lt_of_le_of_lt (show r ≤ 200 by omega) (by decide)) (by decide) (by decide), _, rfl, (k + 1) / r, rfl, fun fa H7 s7 hfa => ⟨by show 2 ≤ sizeLine; decide, fun tp ntp => ?_⟩⟩
            rw [SX.slice_to (by omega), Int.toNat_natCast]
            have ez : rest.take r = z'.take r := by rw [hz', List.take_take, Nat.min_eq_left (by omega)]
            rw [ez]
            have sT := sameNew (o := .tup [.str (S (z'.take r)), .ref fa]) ntp
            have hT : PcV (upd H7 tp (.tup [.str (S (z'.take r)), .ref fa])) (.ref tp) (z'.take r, (k + 1) / r) := ⟨tp, rfl, fa, upd_same, sT _ _ hfa⟩
            generalize upd H7 tp (.tup [.str (S (z'.take r)), .ref fa]) = H8 at sT hT ⊢
            have s68 := s7.trans sT
            refine ⟨Pa, _, _, rfl, rfl, s68 _ _ hP, by show 1 < sizeLine; decide, ?_⟩
            have tu : TupS H8 (upd H8 Pa (.lst ([V.ref p1] ++ [.ref tp]))) := tup_upd (s68 _ _ hP)
            refine hU _ _ ⟨rfl, (SameX.of s68).trans sameX_upd, _, upd_same, ?_⟩
            rw [eo]
            exact (All2.cons ((pc6.mono (TupS.of s68)).mono tu) .nil).app (.cons (hT.mono tu) .nil)
          · rw [decide_eq_false (show ¬((r : Nat) : Int) < ((k + 1 : Nat) : Int) by omega)]
            have eo : opts z' = [(z', 1)] := by
              unfold opts
              rw [er, lz', if_neg cr]
            refine iteF (hU _ _ ⟨rfl, .refl _ _, _, hP, ?_⟩)
            rw [eo]
            exact .cons pc6 .nil
        · obtain ⟨rfl, sX, ws, hPX, aw⟩ := p
          have hSX := sX _ _ (Ne.symm PS) hS6
          have pbX : PrB C HX pr a b c d := by
            refine ⟨?_, pb.2⟩
            obtain ⟨dx, hp⟩ := pb3.1
            have hpB := sB _ _ (fun x => by rw [x, hS3] at hp; cases hp) hp
            exact ⟨dx, sX _ _ (fun x => by rw [x, nPB] at hpB; cases hpB) (sB6 _ _ hpB)⟩
          have sBX : TupS HB HX := (TupS.of sB6).trans (TupS.ofX hP sX)
          obtain ⟨xs, hxs⟩ : ∃ xs : List St, xs = (opts z').map fun p => ⟨c1 a (b + d) p, p, i + (k + 1)⟩ := ⟨_, rfl⟩
          refine ⟨_, rfl, .inl ⟨rfl, _, .inl (.inl hSX)⟩, _, rfl, Pa, rfl, ⟨_, .inl (.inl hPX)⟩, fun D nD => ?_⟩
          refine lc_list (K := K) (a := Pa) (xs := ws) (fun j HD => Same HX HD ∧ ∃ us', HD D = some (.lst us') ∧ us'.length = j ∧ All2 (StpV HD) us' (xs.take j)) ⟨sameNew nD, [], upd_same, rfl, .nil⟩ (fun j HD _ p => .inl (.inl (p.1 _ _ hPX))) (fun j y HD hj p => ?_) fun HD p => ?_
          · obtain ⟨sD, us', hD, lus', au⟩ := p
            obtain ⟨q', hq, pa, rfl, pca⟩ := aw.get hj
            obtain ⟨ql, qn⟩ := opts_low lowz q' (List.mem_of_getElem? hq)
            have q1 : 1 ≤ q'.2 := by
              rcases List.mem_cons.mp (List.mem_of_getElem? hq) with e | e
              · rw [e]; exact Nat.le_refl 1
              · split at e
                · rw [List.mem_singleton.mp e]
                  exact Nat.div_pos (by rw [er, lz']; omega) (by rw [er]; omega)
                · cases e
            refine ⟨rfl, yes_if ⟨_, rfl, _, rfl, _, rfl, _, _, rfl, rfl, _, rfl, pa, pr, q', i + (k + 1), a, b, c, d, ?_, pca.mono (TupS.of sD), ql, by omega, q1, pbX.same sD, fun v' H9 s9 stp => ?_⟩⟩
            · rfl
            · have hD9 := s9 _ _ hD
              have hx : xs[j]? = some ⟨c1 a (b + d) q', q', i + (k + 1)⟩ := by rw [hxs, List.getElem?_map, hq]; rfl
              have tu : TupS H9 (upd H9 D (.lst (us' ++ [v']))) := tup_upd hD9
              have lj : j < ws.length := (List.getElem?_eq_some_iff.mp hj).1
              refine ⟨us', hD9, by (have h1 := aw.len; have h2 : (opts z').length ≤ 2 := (by unfold opts; split <;> simp); rw [lus', sizeLine_eq]; omega), same_upd2 nD (sD.trans s9), us' ++ [v'], upd_same, by rw [List.length_append, lus']; rfl, ?_⟩
              rw [List.take_succ, hx]
              exact (((au.mono fun v x g => g.mono (TupS.of s9)).mono fun v x g => g.mono tu)).app (.cons (stp.mono tu) .nil)
          · obtain ⟨sD, us', hD, lus', au⟩ := p
            have lxs : xs.length = ws.length := by rw [hxs, List.length_map, aw.len]
            rw [← lxs, List.take_length] at au
            obtain ⟨x0, xr, ex⟩ : ∃ x0 xr, xs = x0 :: xr := by
              rw [hxs]
              exact ⟨_, _, rfl⟩
            have ds := au.dps (K := K) (d := dSt) fun v x g => g.dp
            rw [ex] at ds
            refine ⟨D, us', dSt x0, xr.map dSt, rfl, .inl (.inl hD), ds, alike_dSt (x0 :: xr), Nat.le_trans (depth_dSt (x0 :: xr)) (by decide), fun j v hv hm => ?_⟩
            obtain ⟨y, hy, sy⟩ := au.get hv
            rw [← List.map_cons, ← ex, List.getElem?_map, hy] at hm
            have hm := Option.some.inj hm
            have my := List.mem_of_getElem? hy
            rw [hxs] at my
            obtain ⟨q', hq', ey⟩ := List.mem_map.mp my
            have least := minSt x0 xr y rfl hm fun z0 hz0 => by
              rw [← ex, hxs] at hz0
              obtain ⟨q2, _, e2⟩ := List.mem_map.mp hz0
              rw [← e2, ← ey]
            have sok : StepOk a (b + d) z' y.p := LP.step_of pb.2.1 ne' (by rw [← ey]; exact hq') fun q2 hq2 => by
              have := least ⟨c1 a (b + d) q2, q2, i + (k + 1)⟩ (by rw [← ex, hxs]; exact List.mem_map.mpr ⟨q2, hq2, rfl⟩)
              rw [← ey] at this ⊢
              exact this
            have hSD := sD _ _ hSX
            refine ⟨Sa, vs, _, rfl, rfl, hSD, by rw [av.len, les, sizeLine_eq]; omega, ?_⟩
            have tu : TupS HD (upd HD Sa (.lst (vs ++ [v]))) := tup_upd hSD
            have fr : SameX Sa HB (upd HD Sa (.lst (vs ++ [v]))) := fun b' o nb e => by
              rw [upd_ne nb]
              refine sD _ _ (sX _ _ (fun x => ?_) (sB6 _ _ e))
              rw [x, nPB] at e
              cases e
            refine ⟨sB.trans fr, _, _, _, _, vs ++ [v], es ++ [y], rfl, upd_same, ?_, by rw [List.length_append, les]; rfl, fun j' x' hx' => ?_⟩
            · exact ((av.mono fun v x g => ((g.mono sBX).mono (TupS.of sD)).mono tu)).app (.cons (sy.mono tu) .nil)
            · by_cases hj' : j' < es.length
              · rw [List.getElem?_append_left hj'] at hx'
                exact ev j' x' hx'
              · rw [List.getElem?_append_right (by omega)] at hx'
                have : j' - es.length < 1 := (List.getElem?_eq_some_iff.mp hx').1
                have ej : j' = k := by omega
                rw [ej, les, Nat.sub_self] at hx'
                cases Option.some.inj hx'
                rw [ej]
                refine ⟨by rw [← ey], by rw [← ey], ?_, ?_⟩
                · rw [← hrest, ← hz']
                  exact sok
                · rw [← ey]
                  exact (opts_low lowz q' hq').1
      · obtain ⟨sB, y7, y8, y9, y10, vs, es, rfl, hSB, av, les, ev⟩ := p
        have hLB := sB _ _ (Ne.symm SL) hL3
        rw [natsV_len, rts_len, lrest] at les
        refine ⟨_, rfl, .inl ⟨rfl, _, .inl (.inl hLB)⟩, _, rfl, L, us, _, rfl, rfl, hLB, by rw [lus, sizeLine_eq]; omega, ?_⟩
        have fr : SameX L HH' (upd HB L (.lst (us ++ [.ref Sa]))) := fun b' o nb e => by
          rw [upd_ne nb]
          exact sB _ _ (fun x => by rw [x, nS] at e; cases e) (s3 _ _ (sS _ _ e))
        have tu : TupS HB (upd HB L (.lst (us ++ [.ref Sa]))) := tup_upd hLB
        refine ⟨sx.trans fr, iz, _, _, _, _, _, _, _, us ++ [.ref Sa], rfl, upd_same, by rw [List.length_append, lus]; rfl, fun lo v hv => ?_⟩
        by_cases hj : lo < us.length
        · rw [List.getElem?_append_left hj] at hv
          obtain ⟨r, e, ne2, hr2⟩ := rows lo v hv
          exact ⟨r, e, ne2, hr2.sameX ne2 hL fr⟩
        · rw [List.getElem?_append_right (by omega)] at hv
          have : lo - us.length < 1 := (List.getElem?_eq_some_iff.mp hv).1
          have ei : lo = i := by omega
          rw [ei, lus, Nat.sub_self] at hv
          refine ⟨Sa, (Option.some.inj hv).symm, SL, vs, es, by rw [upd_ne SL]; exact hSB, av.mono fun v x g => g.mono tu, ?_⟩
          rw [ei]
          exact ⟨les, ev⟩
    · obtain ⟨sx, _, y4, y5, y6, y7, y8, y9, y10, us, rfl, hL, lus, rows⟩ := p
      refine ⟨_, rfl, q L HH us (fun b o e => sx _ _ (ne_of_none e nL) (s0 _ _ e)) nL hL (by rw [lus]; exact Int.toNat_natCast _) fun low v hv => ?_⟩
      obtain ⟨r, e, _, h⟩ := rows low v hv
      exact ⟨r, e, h⟩
end
end K61

set_option Elab.async false
set_option linter.all false
set_option maxRecDepth 100000
set_option maxHeartbeats 4000000
namespace K61
open PySem PySem.Spec PyProof.Rows L2 CK SX NM PySem.W
open LP (Pc leL leR leStep c1 StepOk opts Best cost)
def EnV (H : Hp) (v : V) (e : En) : Prop := ∃ t pa, v = .ref t ∧ H t = some (.tup [.int (e.c : Nat), .int (e.n : Nat), .ref pa, .int 0, .int (e.h : Nat)]) ∧ PC H pa (pn e.p)
theorem EnV.mono {H H' : Hp} {v : V} {x : En} (h : EnV H v x) (s : TupS H H') : EnV H' v x := by
  obtain ⟨t, pa, e, h1, h2⟩ := h
  exact ⟨t, pa, e, s _ _ h1, h2.mono s⟩
theorem EnV.dp {K : PySem.W.Frag} {H : Hp} {v : V} {x : En} (h : EnV H v x) : Dp K H v (dEn x) := by
  obtain ⟨t, pa, rfl, h1, h2⟩ := h
  exact .tup (.inl (.inl h1)) (.cons (.int _) (.cons (.int _) (.cons (dp_pn h2) (.cons (.int _) (.cons (.int _) .nil)))))
/-- cost and number at the front of a tuple -/
def RestV (H : Hp) (v : V) (c n : Nat) : Prop := ∃ t xs, v = .ref t ∧ H t = some (.tup (.int (c : Nat) :: .int (n : Nat) :: xs))
theorem RestV.mono {H H' : Hp} {v : V} {c n : Nat} (h : RestV H v c n) (s : TupS H H') : RestV H' v c n := by
  obtain ⟨t, xs, e, h1⟩ := h
  exact ⟨t, xs, e, s _ _ h1⟩
theorem EnV.rest {H : Hp} {v : V} {x : En} (h : EnV H v x) : RestV H v x.c x.n := by
  obtain ⟨t, pa, e, h1, _⟩ := h
  exact ⟨t, _, e, h1⟩
section
variable {P : Program} {w : World} {K : PySem.W.Frag} {mg : Str → Option Value} {base : Heap} {C : Addr}
def sp_ways : Sp := fun vs H Q _ => ∃ (sl ol : Addr) (ws os : List V) (es : List St) (cf nf : Nat → Nat), vs = [.ref sl, .int 0, .ref ol] ∧ H sl = some (.lst ws) ∧ All2 (StpV H) ws es ∧ H ol = some (.lst os) ∧ (∀ x ∈ es, ∃ v, os[x.h]? = some v ∧ RestV H v (cf x.h) (nf x.h)) ∧ es.length ≤ 1000 ∧ ∀ L H' fs, Same H H' → H L = none → H' L = some (.lst fs) → All2 (EnV H') fs (es.map fun x => ⟨x.c + cf x.h, 1 + nf x.h, x.p, x.h⟩) → Q (.ref L) H'
theorem c_ways_on (T : Txt K mg C) : C8.Cal P w K mg base 1 "ways_on" sp_ways [] := by
  refine calF T.d_ways_on sc_ways_on (fun vs H Q E h => ?_) (fun f cdv A outer s H vs Q E hr h => ?_)
  · obtain ⟨_, _, _, _, _, _, _, rfl, _⟩ := h; rfl
  · obtain ⟨sl, ol, ws, os, es, cf, nf, rfl, hsl, av, hol, rs, les, q⟩ := h
    refine ⟨_, (pss_cons (ps_set (i := 3) sc_ways_on.nd rfl (Or.inl rfl) (pe_lst pa_nil))
    (pss_cons (ps_for PassesOwn.never rfl (pi_list (pv 0)) (pg_tup rfl (pgs_cons (pg_name (i := 4) sc_ways_on.nd rfl (Or.inl rfl)) (pgs_cons (pg_name (i := 5) sc_ways_on.nd rfl (Or.inl rfl)) (pgs_cons (pg_name (i := 6) sc_ways_on.nd rfl (Or.inl rfl)) pgs_nil))))
    (pss_one (ps_if (pt_cmpR op_notN (pe_ix ix_list (pv 2) (pv 6) (fun _ _ => rfl)) pe_non (nomark _))
    (pss_one (ps_expr (pe_bm PySem.F.plainAttrs_list PySem.F.slot_list_append PySem.F.type_list_append mt_append (pv 3) (pa_cons (pe_tup (pa_cons (pe_op op_add (pv 4) (pe_ix ix_tup (pe_ix ix_list (pv 2) (pv 6) (fun _ _ => rfl)) pe_int (fun _ _ => rfl))) (pa_cons (pe_op op_add pe_int (pe_ix ix_tup (pe_ix ix_list (pv 2) (pv 6) (fun _ _ => rfl)) pe_int (fun _ _ => rfl))) (pa_cons (pv 5) (pa_cons (pv 1) (pa_cons (pv 6) pa_nil)))))) pa_nil))))
    pss_nil)))
    (pss_one (ps_ret (pv 3))))), ?_⟩
    refine ⟨by show 0 ≤ sizeLine; decide, fun L nL => ?_⟩
    have s0 := sameNew (o := .lst []) nL
    have h0 : upd H L (.lst []) L = some (.lst []) := upd_same
    have avs := av.mono fun v x g => g.mono (TupS.of s0)
    have rss : ∀ x ∈ es, ∃ v, os[x.h]? = some v ∧ RestV (upd H L (.lst [])) v (cf x.h) (nf x.h) := fun x hx => by
      obtain ⟨v, e, g⟩ := rs x hx
      exact ⟨v, e, g.mono (TupS.of s0)⟩
    have hsl1 := s0 _ _ hsl
    have hol1 := s0 _ _ hol
    generalize upd H L (.lst []) = H1 at s0 h0 avs rss hsl1 hol1 ⊢
    have slL : sl ≠ L := fun x => by rw [x, nL] at hsl; cases hsl
    have olL : ol ≠ L := fun x => by rw [x, nL] at hol; cases hol
    dsimp only
    rw [gname_eq]
    refine ⟨_, rfl, sl, rfl, ⟨_, .inl (.inl hsl1)⟩, for_list (K := K) (D := { nx := _, rt := Q, bk := fun _ _ => False, ct := fun _ _ => False }) (a := sl) (xs := ws) (fun i σ HH => SameX L H1 HH ∧ ∃ (y4 y5 y6 : Option V) (fs : List V), σ = [some (.ref sl), some (.int 0), some (.ref ol), some (.ref L), y4, y5, y6] ∧ HH L = some (.lst fs) ∧ All2 (EnV HH) fs ((es.take i).map fun x => ⟨x.c + cf x.h, 1 + nf x.h, x.p, x.h⟩)) ⟨.refl _ _, none, none, none, [], rfl, h0, .nil⟩ (fun i σ HH _ p => .inl (.inl (p.1 _ _ slL hsl1))) (fun i v σ HH hi p => ?_) fun σ HH p => ?_⟩
    · obtain ⟨sx, y4, y5, y6, fs, rfl, hL, af⟩ := p
      obtain ⟨x, hx, t, pa, rfl, ht, pc⟩ := avs.get hi
      have tx : TupS H1 HH := TupS.ofX h0 sx
      have htH := tx _ _ ht
      obtain ⟨rv, hrv, rt, rxs, rfl, hrt⟩ := rss x (List.mem_of_getElem? hx)
      have hrtH := tx _ _ hrt
      have holH := sx _ _ olL hol1
      refine ⟨t, _, rfl, .inl (.inl htH), rfl, _, _, rfl, _, _, rfl, _, _, rfl, rfl, ?_⟩
      have ix := atI_nat (xs := os) hrv
      refine ⟨_, rfl, _, rfl, ol, _, (x.h : Nat), .ref rt, rfl, rfl, .inl (.inl holH), ix, rfl, true, rfl, iteT ?_⟩
      refine ⟨_, rfl, .inl ⟨rfl, _, .inl (.inl hL)⟩, _, rfl, _, rfl, _, rfl, ol, _, (x.h : Nat), .ref rt, rfl, rfl, .inl (.inl holH), ix, rt, _, 0, _, rfl, rfl, .inl (.inl hrtH), atI_nat (j := 0) rfl, _, _, rfl, rfl, ?_⟩
      refine ⟨_, rfl, _, rfl, ol, _, (x.h : Nat), .ref rt, rfl, rfl, .inl (.inl holH), ix, rt, _, 1, _, rfl, rfl, .inl (.inl hrtH), atI_nat (j := 1) rfl, _, _, rfl, rfl, _, rfl, _, rfl, _, rfl, by show 5 ≤ sizeLine; decide, fun u nu => ?_⟩
      have su := sameNew (o := .tup [.int ((x.c : Int) + (cf x.h : Int)), .int (1 + (nf x.h : Int)), .ref pa, .int 0, .int (x.h : Nat)]) nu
      have tu : TupS (upd HH u (.tup [.int ((x.c : Int) + (cf x.h : Int)), .int (1 + (nf x.h : Int)), .ref pa, .int 0, .int (x.h : Nat)])) (upd (upd HH u (.tup [.int ((x.c : Int) + (cf x.h : Int)), .int (1 + (nf x.h : Int)), .ref pa, .int 0, .int (x.h : Nat)])) L (.lst (fs ++ [.ref u]))) := tup_upd (su _ _ hL)
      refine ⟨L, fs, _, rfl, rfl, su _ _ hL, ?_, ?_⟩
      · have e1 := af.len
        rw [List.length_map, List.length_take] at e1
        rw [sizeLine_eq]
        omega
      · refine ⟨(sx.trans (.of su)).trans sameX_upd, _, _, _, _, rfl, upd_same, ?_⟩
        rw [List.take_succ, hx]
        show All2 _ _ (((es.take i) ++ [x]).map _)
        rw [List.map_append]
        refine ((af.mono fun v x g => g.mono (TupS.of su)).mono fun v x g => g.mono tu).app (.cons ⟨u, pa, rfl, tu _ _ ?_, (pc.mono (tx.trans (TupS.of su))).mono tu⟩ .nil)
        rw [upd_same]
        show some (HO.tup [V.int ((x.c : Int) + (cf x.h : Int)), V.int (1 + (nf x.h : Int)), .ref pa, .int 0, .int (x.h : Nat)]) = some (HO.tup [V.int ((x.c + cf x.h : Nat) : Int), V.int ((1 + nf x.h : Nat) : Int), .ref pa, .int 0, .int (x.h : Nat)])
        rw [Int.natCast_add, Int.natCast_add]
        rfl
    · obtain ⟨sx, y4, y5, y6, fs, rfl, hL, af⟩ := p
      rw [avs.len, List.take_length] at af
      exact ⟨_, rfl, q L HH fs (fun b o e => sx _ _ (ne_of_none e nL) (s0 _ _ e)) nL hL af⟩
end
end K61

set_option Elab.async false
set_option linter.all false
set_option maxRecDepth 100000
set_option maxHeartbeats 4000000
namespace K61
open PySem PySem.Spec PyProof.Rows L2 CK SX NM PySem.W
open LP (Pc leL leR leStep c1 StepOk opts Best cost)
structure OwnP (a s : Nat) (z : List Nat) (H : Hp) (os : List V) (B : Nat → List Pc) (i : Nat) : Prop where
  len : os.length = z.length + 1
  best : ∀ j, i ≤ j → j ≤ z.length → Best a s (z.drop j) (B j)
  last : ∃ t, os[z.length]? = some (.ref t) ∧ H t = some (.tup [.int 0, .int 0])
  nil : B z.length = []
  ent : ∀ j, i ≤ j → j < z.length → ∃ v e, os[j]? = some v ∧ EnV H v e ∧ e.c = cost a s (B j) ∧ e.n = (B j).length ∧ j < e.h ∧ e.h ≤ z.length ∧ B j = e.p :: B e.h ∧ Low e.p.1
  none : ∀ j, j < i → j < z.length → os[j]? = some .non
theorem OwnP.mono {a s : Nat} {z : List Nat} {H H' : Hp} {os : List V} {B : Nat → List Pc} {i : Nat} (h : OwnP a s z H os B i) (t : TupS H H') : OwnP a s z H' os B i where
  len := h.len
  best := h.best
  last := by obtain ⟨u, e, g⟩ := h.last; exact ⟨u, e, t _ _ g⟩
  nil := h.nil
  ent := fun j h1 h2 => by obtain ⟨v, e, q1, q2, r⟩ := h.ent j h1 h2; exact ⟨v, e, q1, q2.mono t, r⟩
  none := h.none
theorem depth_dEn : ∀ xs : List En, PyData.depthAll (xs.map dEn) ≤ 3
  | [] => by simp [PyData.depthAll]
  | x :: r => by
    have := depth_dEn r
    rw [List.map_cons, PyData.depthAll]
    have : (dEn x).depth = 3 := by simp [dEn, PyData.depth, PyData.depthAll]
    omega
theorem alike_dEn (xs : List En) : AlikeAll (xs.map dEn) := by
  refine ⟨fun x hx y hy => ?_, fun x hx => ?_⟩
  · obtain ⟨p, _, rfl⟩ := List.mem_map.mp hx
    obtain ⟨q, _, rfl⟩ := List.mem_map.mp hy
    unfold dEn
    rw [← toD_pT, ← toD_pT]
    simp only [PySem.W.alike, alikeAll, DatumOrd.alike, Bool.and_self]
  · obtain ⟨p, _, rfl⟩ := List.mem_map.mp hx
    exact fun e => by cases e
theorem dEn_inj {x y : En} (h : dEn x = dEn y) : x = y := by
  obtain ⟨c, n, p, k⟩ := x
  obtain ⟨c', n', p', k'⟩ := y
  unfold dEn at h
  rw [← toD_pT, ← toD_pT] at h
  injection h with h
  have h1 := (List.cons.inj h).1
  have h2 := (List.cons.inj (List.cons.inj h).2).1
  have h3 := (List.cons.inj (List.cons.inj (List.cons.inj h).2).2).1
  have h4 := (List.cons.inj (List.cons.inj (List.cons.inj (List.cons.inj (List.cons.inj h).2).2).2).2).1
  injection h1 with h1
  injection h2 with h2
  injection h4 with h4
  have e3 : p = p' := by
    have g := eq_dp p p'
    have g2 := eq_dp p' p'
    rw [h3, g2, decide_eq_true rfl] at g
    exact of_decide_eq_true g.symm
  dsimp only at h1 h2 h4
  have := Int.ofNat.inj h1
  have := Int.ofNat.inj h2
  have := Int.ofNat.inj h4
  subst e3
  simp_all
theorem OwnP.end_ {a s : Nat} {z : List Nat} {H : Hp} {os : List V} {B : Nat → List Pc} {tl : Addr} (h : OwnP a s z H os B (z.length + 1)) (ht : H tl = some (.tup [.int 0, .int 0])) : OwnP a s z H (os.set z.length (.ref tl)) B z.length where
  len := by rw [List.length_set]; exact h.len
  best := fun j h1 h2 => by
    have e : j = z.length := by omega
    rw [e, List.drop_length, h.nil]
    exact LP.best_nil a s
  last := ⟨tl, by rw [List.getElem?_set_self (by rw [h.len]; omega)], ht⟩
  nil := h.nil
  ent := fun j h1 h2 => by omega
  none := fun j h1 h2 => by rw [List.getElem?_set_ne (by omega)]; exact h.none j (by omega) h2
theorem OwnP.step_ {a s : Nat} {z : List Nat} {H : Hp} {os : List V} {B : Nat → List Pc} {pl : Nat} {v : V} {e : En} (h : OwnP a s z H os B (pl + 1)) (hp : pl < z.length) (ev : EnV H v e) (h1 : e.c = cost a s (e.p :: B e.h)) (h2 : e.n = (e.p :: B e.h).length) (h3 : pl < e.h) (h4 : e.h ≤ z.length) (h5 : Low e.p.1) (hb : Best a s (z.drop pl) (e.p :: B e.h)) :
    OwnP a s z H (os.set pl v) (fun j => if j = pl then e.p :: B e.h else B j) pl where
  len := by rw [List.length_set]; exact h.len
  best := fun j g1 g2 => by
    by_cases c : j = pl
    · rw [if_pos c, c]; exact hb
    · rw [if_neg c]; exact h.best j (by omega) g2
  last := by
    obtain ⟨t, e1, e2⟩ := h.last
    exact ⟨t, by rw [List.getElem?_set_ne (by omega)]; exact e1, e2⟩
  nil := by rw [if_neg (by omega)]; exact h.nil
  ent := fun j g1 g2 => by
    by_cases c : j = pl
    · subst c
      rw [if_pos rfl]
      exact ⟨v, e, by rw [List.getElem?_set_self (by rw [h.len]; omega)], ev, h1, h2, h3, h4, by rw [if_neg (by omega)], h5⟩
    · obtain ⟨v', e', q1, q2, q3, q4, q5, q6, q7, q8⟩ := h.ent j (by omega) g2
      rw [if_neg c]
      exact ⟨v', e', by rw [List.getElem?_set_ne (by omega)]; exact q1, q2, q3, q4, q5, q6, by rw [if_neg (by omega)]; exact q7, q8⟩
  none := fun j g1 g2 => by rw [List.getElem?_set_ne (by omega)]; exact h.none j (by omega) g2
theorem ixN_nat {n k : Nat} (h : k < n) : ixN n (k : Nat) = some k := by
  unfold ixN
  rw [if_pos (by omega), if_pos (by omega)]
  simp
section
variable {P : Program} {w : World} {K : PySem.W.Frag} {mg : Str → Option Value} {base : Heap} {C : Addr}
def sp_filled : Sp := fun vs H Q _ => ∃ (el sl t0 : Addr) (us : List V) (z : List Nat) (a s : Nat), vs = [.ref el, .ref sl, .int 0] ∧ H el = some (.lst (List.replicate z.length .non ++ [.ref t0])) ∧ H t0 = some (.tup [.int 0, .int 0]) ∧ H sl = some (.lst us) ∧ us.length = z.length + 1 ∧ (∀ low v, us[low]? = some v → ∃ r, v = .ref r ∧ RowH a s z H r low) ∧ z.length ≤ 200 ∧ ∀ O H' os B, Same H H' → H O = none → H' O = some (.lst os) → OwnP a s z H' os B 0 → Q (.ref O) H'
theorem c_filled_row (T : Txt K mg C) : C8.Cal P w K mg base 2 "filled_row" sp_filled [] := by
  refine calF T.d_filled_row sc_filled_row (fun vs H Q E h => ?_) (fun f cdv A outer s0 H vs Q E hr h => ?_)
  · obtain ⟨_, _, _, _, _, _, _, rfl, _⟩ := h; rfl
  · obtain ⟨el, sl, t0, us, z, a, s, rfl, hel, ht0, hsl, lus, rows, zl, q⟩ := h
    refine ⟨_, (pss_cons (ps_set (i := 3) sc_filled_row.nd rfl (Or.inl rfl) (pe_callTy call_list_of (by rfl) T.m_list (by decide +kernel) (pa_cons (pv 0) pa_nil)))
    (pss_cons (ps_for PassesOwn.never rfl (pi_range3 (by rfl) T.m_range (pa_cons (pe_op op_sub (pe_callB call_len_seq (by rfl) T.m_len (by decide +kernel) (pa_cons (pv 3) pa_nil)) pe_int) (pa_cons (pe_un un_neg pe_int) (pa_cons (pe_un un_neg pe_int) pa_nil)))) (pg_name (i := 4) sc_filled_row.nd rfl (Or.inl rfl))
    (pss_cons (ps_set (i := 5) sc_filled_row.nd rfl (Or.inl rfl) (C8.pe_c (c_ways_on T) hr (by decide) (by rfl) (pa_cons (pe_ix ix_list (pv 1) (pv 4) (fun _ _ => rfl)) (pa_cons (pv 2) (pa_cons (pv 3) pa_nil)))))
    (pss_cons (ps_if (pt_cmpR op_notN (pe_ix ix_list (pv 3) (pv 4) (fun _ _ => rfl)) pe_non (nomark _))
    (pss_one (ps_expr (pe_bm PySem.F.plainAttrs_list PySem.F.slot_list_append PySem.F.type_list_append mt_append (pv 5) (pa_cons (pe_ix ix_list (pv 3) (pv 4) (fun _ _ => rfl)) pa_nil))))
    pss_nil)
    (pss_one (ps_asg (pe_minN rfl hr.units (by rfl) T.m_min (by decide +kernel) (pa_cons (pv 5) pa_nil) pe_non) (pg_sub (pv 3) (pv 4) set_list))))))
    (pss_one (ps_ret (pv 3))))), ?_⟩
    refine ⟨_, rfl, el, _, rfl, .inl (.inl (.inl hel)), fun O nO => ?_⟩
    have sO := sameNew (o := .lst (List.replicate z.length .non ++ [.ref t0])) nO
    have hO : upd H O (.lst (List.replicate z.length .non ++ [.ref t0])) O = some (.lst (List.replicate z.length .non ++ [.ref t0])) := upd_same
    generalize upd H O (.lst (List.replicate z.length .non ++ [.ref t0])) = H1 at sO hO ⊢
    have slO : sl ≠ O := fun x => by rw [x, nO] at hsl; cases hsl
    have hsl1 := sO _ _ hsl
    dsimp only
    rw [gname_eq]
    have lO : (List.replicate z.length V.non ++ [V.ref t0]).length = z.length + 1 := by simp
    refine ⟨_, rfl, O, _, rfl, .inl (.inl (.inl hO)), _, 1, rfl, rfl, 1, rfl, 1, rfl, (z.length : Nat), -1, -1, z.length + 1, ?_, ?_, ?_⟩
    · dsimp only
      rw [lO, show ((z.length + 1 : Nat) : Int) - 1 = (z.length : Nat) by omega]
    · have := RgC.neg (i := (z.length : Nat)) (j := -1) (by omega) (by omega) (by decide) (by decide)
      rwa [show (((z.length : Nat) : Int) - -1).toNat = z.length + 1 by omega] at this
    refine for_it walk_rangeC (fun i σ HH => SameX O H1 HH ∧ i ≤ z.length + 1 ∧ ∃ (y4 y5 : Option V) (os : List V) (B : Nat → List Pc), σ = [some (.ref el), some (.ref sl), some (.int 0), some (.ref O), y4, y5] ∧ HH O = some (.lst os) ∧ OwnP a s z HH os B (z.length + 1 - i)) ⟨.refl _ _, Nat.zero_le _, none, none, _, fun _ => [], rfl, hO, ?_⟩ (fun _ _ _ _ _ => True.intro) (fun i x σ HH HH' hi p yy => ?_) fun σ HH p => ?_
    · refine ⟨lO, fun j h1 h2 => by omega, ⟨t0, ?_, sO _ _ ht0⟩, rfl, fun j h1 h2 => by omega, fun j h1 h2 => ?_⟩
      · rw [List.getElem?_append_right (by simp)]
        simp
      · rw [List.getElem?_append_left (by simpa using h2), List.getElem?_replicate, if_pos h2]
    · obtain ⟨sx, iz, y4, y5, os, B, rfl, hOs, own⟩ := p
      obtain ⟨rfl, rfl⟩ := yy
      have iz' : i ≤ z.length := by omega
      obtain ⟨pl, hpl⟩ : ∃ pl, pl + i = z.length := ⟨z.length - i, by omega⟩
      rw [gname_eq]
      dsimp only
      rw [show ((z.length : Nat) : Int) + (i : Nat) * -1 = ((pl : Nat) : Int) by omega]
      have hsl2 := sx _ _ slO hsl1
      have tx : TupS H1 HH' := TupS.ofX hO sx
      have lpl : pl < us.length := by omega
      obtain ⟨ur, hur⟩ : ∃ ur, us[pl]? = some ur := ⟨_, List.getElem?_eq_getElem lpl⟩
      obtain ⟨r, rfl, hrow⟩ := rows pl ur hur
      obtain ⟨ws, es, hr1, aw, les, epr⟩ := hrow
      have rO : r ≠ O := fun x => by rw [x, nO] at hr1; cases hr1
      have hr2 := sx _ _ rO (sO _ _ hr1)
      have aw2 := aw.mono fun v x g => (g.mono (TupS.of sO)).mono tx
      have ei : z.length + 1 - i = pl + 1 := by omega
      rw [ei] at own
      obtain ⟨tl, htl, hlt⟩ := own.last
      refine ⟨_, rfl, _, rfl, sl, us, (pl : Nat), .ref r, rfl, rfl, .inl (.inl hsl2), atI_nat hur, _, rfl, _, rfl, r, O, ws, os, es, fun j => cost a s (B j), fun j => (B j).length, rfl, hr2, aw2, hOs, fun x hx => ?_, by omega, fun Lf H3 fs s3 nLf hLf af => ?_⟩
      · obtain ⟨k, hk, ek⟩ := List.getElem_of_mem hx
        obtain ⟨p1, p2, p3, p4⟩ := epr k x (by rw [List.getElem?_eq_getElem hk, ek])
        rw [p1]
        by_cases c : pl + (k + 1) = z.length
        · rw [c]
          refine ⟨_, htl, tl, [], rfl, ?_⟩
          dsimp only
          rw [own.nil]
          exact hlt
        · obtain ⟨v, e, q1, q2, q3, q4, _⟩ := own.ent (pl + (k + 1)) (by omega) (by omega)
          dsimp only
          rw [← q3, ← q4]
          exact ⟨v, q1, q2.rest⟩
      have hO3 := s3 _ _ hOs
      have own3 := own.mono (TupS.of s3)
      have LfO : Lf ≠ O := fun x => by rw [x, hOs] at nLf; cases nLf
      have e1 := af.len
      rw [List.length_map] at e1
      dsimp only
      rw [gname_eq]
      by_cases cN : pl = z.length
      · subst cN
        have f0 : fs = [] := List.length_eq_zero_iff.mp (by omega)
        subst f0
        refine ⟨_, rfl, _, rfl, O, os, (z.length : Nat), .ref tl, rfl, rfl, .inl (.inl hO3), atI_nat htl, rfl, true, rfl, iteT ?_⟩
        refine ⟨_, rfl, .inl ⟨rfl, _, .inl (.inl hLf)⟩, _, rfl, _, rfl, O, os, (z.length : Nat), .ref tl, rfl, rfl, .inl (.inl hO3), atI_nat htl, Lf, [], _, rfl, rfl, hLf, by show 0 < sizeLine; decide, ?_⟩
        have hO4 := (upd_ne (o := .lst ([] ++ [.ref tl])) (Ne.symm LfO)).trans hO3
        have tu : TupS H3 (upd H3 Lf (.lst ([] ++ [.ref tl]))) := tup_upd hLf
        have hL4 : upd H3 Lf (.lst ([] ++ [.ref tl])) Lf = some (.lst [.ref tl]) := upd_same
        have fr : SameX O HH' (upd H3 Lf (.lst ([] ++ [.ref tl]))) := fun b' o nb e => by
          rw [upd_ne (fun x => by rw [x, nLf] at e; cases e)]
          exact s3 _ _ e
        generalize upd H3 Lf (.lst ([] ++ [.ref tl])) = H4 at hO4 tu hL4 fr ⊢
        have htl4 := tu _ _ (s3 _ _ hlt)
        have d0 : Dp K H4 (.ref tl) (.tuple [.int 0, .int 0]) := .tup (.inl (.inl htl4)) (.cons (.int _) (.cons (.int _) .nil))
        refine ⟨_, rfl, Lf, [.ref tl], [.tuple [.int 0, .int 0]], rfl, .inl (.inl hL4), .cons d0 .nil, alikeAll_datum [((0 : Int), (0 : Int))], by decide, (fun e => nomatch e), fun y ys _ j v hv _ => ?_⟩
        have ev : v = .ref tl := by
          cases j with
          | zero => exact (Option.some.inj hv).symm
          | succ j => cases hv
        subst ev
        refine ⟨_, rfl, _, rfl, O, os, (z.length : Nat), z.length, rfl, rfl, hO4, ixN_nat (by rw [own.len]; omega), ?_⟩
        have tO : TupS H4 (upd H4 O (.lst (os.set z.length (.ref tl)))) := tup_upd hO4
        refine ⟨(sx.trans fr).trans sameX_upd, by omega, _, _, os.set z.length (.ref tl), B, rfl, upd_same, ?_⟩
        rw [show z.length + 1 - (i + 1) = z.length by omega]
        exact ((own3.mono tu).mono tO).end_ (tO _ _ htl4)
      · have plN : pl < z.length := by omega
        have hno := own.none pl (by omega) plN
        refine ⟨_, rfl, _, rfl, O, os, (pl : Nat), .non, rfl, rfl, .inl (.inl hO3), atI_nat hno, rfl, false, rfl, iteF ?_⟩
        rw [tnext_eq]
        obtain ⟨fs0, hfs0⟩ : ∃ ens : List En, ens = es.map fun x => ⟨x.c + cost a s (B x.h), 1 + (B x.h).length, x.p, x.h⟩ := ⟨_, rfl⟩
        rw [← hfs0] at af
        obtain ⟨e0, er, ee⟩ : ∃ e0 er, fs0 = e0 :: er := by
          cases h0 : fs0 with
          | nil =>
            have := congrArg List.length h0
            rw [hfs0, List.length_map, les] at this
            simp at this
            omega
          | cons a b => exact ⟨a, b, rfl⟩
        have ds := af.dps (K := K) (d := dEn) fun v x g => g.dp
        refine ⟨_, rfl, Lf, fs, fs0.map dEn, rfl, .inl (.inl hLf), ds, alike_dEn fs0, Nat.le_trans (depth_dEn fs0) (by decide), fun e => by (rw [ee] at e; cases e), fun y ys ey j v hv hm => ?_⟩
        rw [ee, List.map_cons] at ey
        obtain ⟨rfl, rfl⟩ := List.cons.inj ey
        obtain ⟨m, m1, m2, m3⟩ := minEn_le e0 er
        obtain ⟨ej, hej, evj⟩ := af.get hv
        rw [List.getElem?_map, hej, m1] at hm
        have em := dEn_inj (Option.some.inj hm)
        subst em
        rw [hfs0, List.getElem?_map] at hej
        obtain ⟨x, hx, ex⟩ := Option.map_eq_some_iff.mp hej
        obtain ⟨x1, x2, x3, x4⟩ := epr j x hx
        have jl : j < z.length - pl := by rw [← les]; exact (List.getElem?_eq_some_iff.mp hx).1
        obtain ⟨pf, hpf⟩ : ∃ pf : Nat → Pc, pf = fun k => ((es[k - 1]?).map fun x => x.p).getD ([], 0) := ⟨_, rfl⟩
        have pfk : ∀ k y, es[k]? = some y → pf (k + 1) = y.p := fun k y hy => by
          rw [hpf]
          dsimp only
          rw [Nat.add_sub_cancel, hy]
          rfl
        have lw : (z.drop pl).length = z.length - pl := List.length_drop
        have hb := LP.best_step (a := a) (s := s) (w := z.drop pl) (fun e => by rw [e] at lw; simp at lw; omega) pf (fun k => B (pl + k)) (fun k k1 k2 => by
          obtain ⟨k', rfl⟩ : ∃ k', k = k' + 1 := ⟨k - 1, by omega⟩
          have hk : k' < es.length := by omega
          rw [pfk k' es[k'] (List.getElem?_eq_getElem hk)]
          exact (epr k' _ (List.getElem?_eq_getElem hk)).2.2.1) (fun k k1 k2 => by
          rw [List.drop_drop]
          exact own.best (pl + k) (by omega) (by omega)) (j + 1) (by omega) (by omega) (fun k k1 k2 => by
          obtain ⟨k', rfl⟩ : ∃ k', k = k' + 1 := ⟨k - 1, by omega⟩
          have hk : k' < es.length := by omega
          have hy := List.getElem?_eq_getElem hk
          obtain ⟨y1, y2, y3, y4⟩ := epr k' _ hy
          rw [pfk k' _ hy, pfk j x hx]
          have g := ltEn_no.mp (m3 ⟨es[k'].c + cost a s (B es[k'].h), 1 + (B es[k'].h).length, es[k'].p, es[k'].h⟩ (by
            rw [← ee, hfs0]
            exact List.mem_map.mpr ⟨_, List.getElem_mem hk, rfl⟩))
          rw [← ex] at g
          dsimp only at g
          rw [x1, x2, y1, y2] at g
          unfold LP.leEnt at g ⊢
          rcases g with g | ⟨g1, g⟩
          · exact .inl g
          · refine .inr ⟨g1, ?_⟩
            rcases g with g | ⟨g2, g⟩
            · exact .inl g
            · refine .inr ⟨g2, ?_⟩
              rcases g with g | ⟨g3, g4⟩
              · exact .inl g
              · exact .inr ⟨g3, by omega⟩)
        rw [pfk j x hx] at hb
        rw [← x1] at hb
        rw [← ex] at evj
        have tO : TupS H3 (upd H3 O (.lst (os.set pl v))) := tup_upd hO3
        refine ⟨_, rfl, _, rfl, O, os, (pl : Nat), pl, rfl, rfl, hO3, ixN_nat (by rw [own.len]; omega), ?_⟩
        refine ⟨(sx.trans (.of s3)).trans sameX_upd, by omega, _, _, os.set pl v, fun k => if k = pl then x.p :: B x.h else B k, rfl, upd_same, ?_⟩
        rw [show z.length + 1 - (i + 1) = pl by omega]
        refine (own3.mono tO).step_ plN (evj.mono tO) ?_ ?_ (by show pl < x.h; omega) (by show x.h ≤ z.length; omega) x4 hb
        · show x.c + cost a s (B x.h) = c1 a s x.p + cost a s (B x.h)
          rw [x2]
        · show 1 + (B x.h).length = (B x.h).length + 1
          omega
    · obtain ⟨sx, iz, y4, y5, os, B, rfl, hOs, own⟩ := p
      rw [Nat.sub_self] at own
      exact ⟨_, rfl, q O HH os B (fun b o e => sx _ _ (ne_of_none e nO) (sO _ _ e)) nO hOs own⟩
end
end K61

set_option Elab.async false
set_option linter.all false
set_option maxRecDepth 100000
set_option maxHeartbeats 4000000
namespace K61
open PySem PySem.Spec PyProof.Rows L2 CK SX NM PySem.W
open LP (Pc leL leR leStep c1 StepOk opts Best cost)
section
variable {P : Program} {w : World} {K : PySem.W.Frag} {mg : Str → Option Value} {base : Heap} {C : Addr}
theorem c_power_steps (T : Txt K mg C) : C8.Cal P w K mg base 1 "power_steps" (fun _ _ _ _ => False) [] :=
  calF T.d_power_steps sc_power_steps (fun vs H Q E h => h.elim) (fun f cdv A outer s H vs Q E hr h => h.elim)
def sp_rests : Sp := fun vs H Q _ => ∃ (z : List Nat) (bl pr : Addr) (a b c d : Nat), vs = [.str (S z), .ref bl, .int 0, .ref pr] ∧ H bl = some (.lst []) ∧ Low z ∧ z.length ≤ 200 ∧ PrB C H pr a b c d ∧ ∀ L O H' os B, Same H H' → H' L = some (.lst [.ref O]) → H' O = some (.lst os) → OwnP a (b + d) z H' os B 0 → Q (.ref L) H'
theorem c_best_rests (T : Txt K mg C) : C8.Cal P w K mg base 7 "best_rests" (sp_rests (C := C)) [] := by
  refine calF T.d_best_rests sc_best_rests (fun vs H Q E h => ?_) (fun f cdv A outer s H vs Q E hr h => ?_)
  · obtain ⟨_, _, _, _, _, _, _, rfl, _⟩ := h; rfl
  · obtain ⟨z, bl, pr, a, b, c, d, rfl, hbl, low, zl, pb, q⟩ := h
    refine ⟨_, (pss_cons (ps_set (i := 4) sc_best_rests.nd rfl (Or.inl rfl) (C8.pe_c (c_plain_steps T) hr (by decide) (by rfl) (pa_cons (pv 0) (pa_cons (pv 2) (pa_cons (pv 3) pa_nil)))))
    (pss_cons (ps_set (i := 5) sc_best_rests.nd rfl (Or.inr rfl) (pe_lst (pa_cons (C8.pe_c (c_filled_row T) hr (by decide) (by rfl) (pa_cons (pe_op op_cat (pe_op op_rep (pe_lst (pa_cons pe_non pa_nil)) (pe_callB call_len_str (by rfl) T.m_len (by decide +kernel) (pa_cons (pv 0) pa_nil))) (pe_lst (pa_cons (pe_tup (pa_cons pe_int (pa_cons pe_int pa_nil))) pa_nil))) (pa_cons (pv 4) (pa_cons (pe_callB call_len_seq (by rfl) T.m_len (by decide +kernel) (pa_cons (pv 1) pa_nil)) pa_nil)))) pa_nil)))
    (pss_cons (ps_for PassesOwn.never rfl (pi_range3 (by rfl) T.m_range (pa_cons (pe_op op_sub (pe_callB call_len_seq (by rfl) T.m_len (by decide +kernel) (pa_cons (pv 1) pa_nil)) pe_int) (pa_cons (pe_un un_neg pe_int) (pa_cons (pe_un un_neg pe_int) pa_nil)))) (pg_name (i := 6) sc_best_rests.nd rfl (Or.inr rfl))
    (pss_cons (ps_set (i := 7) sc_best_rests.nd rfl (Or.inl rfl) (C8.pe_c (c_power_steps T) hr (by decide) (by rfl) (pa_cons (pv 0) (pa_cons (pe_ix ix_list (pv 1) (pv 6) (fun _ _ => rfl)) (pa_cons (pv 3) pa_nil)))))
    (pss_cons (ps_setLc (i := 8) (own := [("found", 9)]) rfl sc_best_rests.nd rfl rfl (sw_true rfl rfl rfl (by decide +kernel)) (pi_list (pv 7)) (blkOk_by (N := ["bare", "spots", "many", "prices", "steps", "rests", "row", "jumps", "entered", "found"]) (sc := C8.fnScope (topS 31)) (own := [("found", 9)]) (by decide +kernel)) (fun _ _ _ _ _ => (pg_name (i := 9) sc_best_rests.nd rfl (Or.inl rfl))) (fun _ _ _ _ _ => pts_nil) (fun _ _ _ _ _ => (pe_minNK (K := K) rfl rfl hr.units (by rfl) T.m_min (by decide +kernel) (pa_cons (C8.pe_c (c_ways_on T) hr (by decide) (by rfl) (pa_cons (pv 9) (pa_cons (pe_op op_add (pv 6) pe_int) (pa_cons (pe_ix ix_listH (pv 5) pe_int (fun _ _ => rfl)) pa_nil)))) pa_nil) pe_non)))
    (pss_one (ps_set (i := 5) sc_best_rests.nd rfl (Or.inr rfl) (pe_op op_cat (pe_lst (pa_cons (C8.pe_c (c_filled_row T) hr (by decide) (by rfl) (pa_cons (pv 8) (pa_cons (pv 4) (pa_cons (pv 6) pa_nil)))) pa_nil)) (pv 5)))))))
    (pss_one (ps_ret (pv 5)))))), ?_⟩
    refine ⟨_, rfl, _, rfl, _, rfl, z, pr, a, b, c, d, rfl, low, zl, pb, fun sl H1 us s1 n1 hsl lus rows => ?_⟩
    dsimp only
    rw [gname_eq]
    refine ⟨by show 1 ≤ sizeLine; decide, fun l0 nl0 => ?_⟩
    have t0 := sameNew (o := .lst [V.non]) nl0
    have hl0 : upd H1 l0 (.lst [V.non]) l0 = some (.lst [V.non]) := upd_same
    generalize upd H1 l0 (.lst [V.non]) = H2 at t0 hl0 ⊢
    refine ⟨_, rfl, S z, rfl, len_line (by omega), ?_⟩
    rw [S_len]
    refine ⟨l0, _, _, rfl, rfl, hl0, by omega, by omega, by rw [sizeLine_eq]; simp; omega, fun l1 nl1 => ?_⟩
    have er : (List.replicate (((z.length : Nat) : Int)).toNat [V.non]).flatten = List.replicate z.length V.non := by
      rw [Int.toNat_natCast]
      generalize z.length = k
      induction k with
      | zero => rfl
      | succ k ih => rw [List.replicate_succ, List.flatten_cons, ih, List.replicate_succ]; rfl
    dsimp only at nl1 ⊢
    rw [er]
    have t1 := sameNew (o := .lst (List.replicate z.length V.non)) nl1
    have hl1 : upd H2 l1 (.lst (List.replicate z.length V.non)) l1 = some (.lst (List.replicate z.length V.non)) := upd_same
    generalize upd H2 l1 (.lst (List.replicate z.length V.non)) = H3 at t1 hl1 ⊢
    refine ⟨by show 2 ≤ sizeLine; decide, fun tt ntt => ?_⟩
    have t2 := sameNew (o := .tup [V.int 0, .int 0]) ntt
    have htt : upd H3 tt (.tup [V.int 0, .int 0]) tt = some (.tup [V.int 0, .int 0]) := upd_same
    generalize upd H3 tt (.tup [V.int 0, .int 0]) = H4 at t2 htt ⊢
    refine ⟨by show 1 ≤ sizeLine; decide, fun l2 nl2 => ?_⟩
    have t3 := sameNew (o := .lst [V.ref tt]) nl2
    have hl2 : upd H4 l2 (.lst [V.ref tt]) l2 = some (.lst [V.ref tt]) := upd_same
    generalize upd H4 l2 (.lst [V.ref tt]) = H5 at t3 hl2 ⊢
    refine ⟨l1, l2, _, _, rfl, rfl, t3 _ _ (t2 _ _ hl1), hl2, by rw [List.length_replicate, sizeLine_eq]; show z.length + 1 ≤ _; omega, fun el nel => ?_⟩
    have t4 := sameNew (o := .lst (List.replicate z.length V.non ++ [V.ref tt])) nel
    have hel : upd H5 el (.lst (List.replicate z.length V.non ++ [V.ref tt])) el = some (.lst (List.replicate z.length V.non ++ [V.ref tt])) := upd_same
    generalize upd H5 el (.lst (List.replicate z.length V.non ++ [V.ref tt])) = H6 at t4 hel ⊢
    have s26 : Same H1 H6 := t0.trans (t1.trans (t2.trans (t3.trans t4)))
    refine ⟨_, rfl, _, rfl, bl, [], rfl, .inl (.inl (.inl (s26 _ _ (s1 _ _ hbl)))), el, sl, tt, us, z, a, b + d, rfl, hel, t4 _ _ (t3 _ _ htt), s26 _ _ hsl, lus, fun lo v hv => ?_, zl, fun O H7 os B s7 nO hO own => ?_⟩
    · obtain ⟨r, e, h⟩ := rows lo v hv
      exact ⟨r, e, h.same s26⟩
    refine ⟨by show 1 ≤ sizeLine; decide, fun L nL => ?_⟩
    have t8 := sameNew (o := .lst [V.ref O]) nL
    have hL : upd H7 L (.lst [V.ref O]) L = some (.lst [V.ref O]) := upd_same
    have own8 := own.mono (TupS.of t8)
    have hO8 := t8 _ _ hO
    generalize upd H7 L (.lst [V.ref O]) = H8 at t8 hL own8 hO8 ⊢
    have s18 := s1.trans (s26.trans (s7.trans t8))
    rw [gname_eq]
    refine ⟨_, rfl, bl, [], rfl, .inl (.inl (.inl (s18 _ _ hbl))), _, 1, rfl, rfl, 1, rfl, 1, rfl, -1, -1, -1, 0, rfl, ?_, ?_⟩
    · have := RgC.neg (i := -1) (j := -1) (by decide) (by decide) (by decide) (by decide)
      exact this
    refine for_it walk_rangeC (fun i σ HH => i = 0 ∧ HH = H8 ∧ σ = [some (.str (S z)), some (.ref bl), some (.int 0), some (.ref pr), some (.ref sl), some (.ref L), none, none, none, none]) ⟨rfl, rfl, rfl⟩ (fun _ _ _ _ _ => True.intro) (fun i x σ HH HH' hi p yy => by omega) fun σ HH p => ?_
    obtain ⟨_, rfl, rfl⟩ := p
    exact ⟨_, rfl, q L O HH os B s18 hL hO8 own8⟩
end
end K61

set_option Elab.async false
set_option linter.all false
set_option maxRecDepth 100000
set_option maxHeartbeats 4000000
namespace K61
open PySem PySem.Spec PyProof.Rows L2 CK SX NM PySem.W
open LP (Pc leL leR leStep c1 StepOk opts Best cost)
section
variable {P : Program} {w : World} {K : PySem.W.Frag} {mg : Str → Option Value} {base : Heap} {C : Addr}
def sp_bpieces : Sp := fun vs H Q _ => ∃ (L O : Addr) (os : List V) (z : List Nat) (B : Nat → List Pc) (a s : Nat), vs = [.ref L] ∧ H L = some (.lst [.ref O]) ∧ H O = some (.lst os) ∧ OwnP a s z H os B 0 ∧ z.length ≤ 200 ∧ ∀ R H' vs, Same H H' → H R = none → H' R = some (.lst vs) → All2 (PcV H') vs (B 0) → Q (.ref R) H'
theorem c_best_pieces (T : Txt K mg C) : C8.Cal P w K mg base 1 "best_pieces" sp_bpieces [] := by
  refine calF T.d_best_pieces sc_best_pieces (fun vs H Q E h => ?_) (fun f cdv A outer s0 H vs Q E hr h => ?_)
  · obtain ⟨_, _, _, _, _, _, _, rfl, _⟩ := h; rfl
  · obtain ⟨L, O, os, z, B, a, s, rfl, hL, hO, own, zl, q⟩ := h
    refine ⟨_, (pss_cons (ps_set (i := 1) sc_best_pieces.nd rfl (Or.inl rfl) (pe_lst pa_nil))
    (pss_cons (ps_set (i := 2) sc_best_pieces.nd rfl (Or.inl rfl) (pe_ix ix_list (pe_ix ix_list (pv 0) pe_int (fun _ _ => rfl)) pe_int (fun _ _ => rfl)))
    (pss_cons (ps_while PassesOwn.never (pt_truth (pe_ix ix_tup (pv 2) pe_int (fun _ _ => rfl)) (by intro _; rfl))
    (pss_cons (ps_expr (pe_bm PySem.F.plainAttrs_list PySem.F.slot_list_append PySem.F.type_list_append mt_append (pv 1) (pa_cons (pe_ix ix_tup (pv 2) pe_int (fun _ _ => rfl)) pa_nil)))
    (pss_one (ps_set (i := 2) sc_best_pieces.nd rfl (Or.inl rfl) (pe_ix ix_list (pe_ix ix_list (pv 0) (pe_ix ix_tup (pv 2) pe_int (fun _ _ => rfl)) (fun _ _ => rfl)) (pe_ix ix_tup (pv 2) pe_int (fun _ _ => rfl)) (fun _ _ => rfl))))))
    (pss_one (ps_ret (pv 1)))))), ?_⟩
    refine ⟨by show 0 ≤ sizeLine; decide, fun R nR => ?_⟩
    have s1 := sameNew (o := .lst []) nR
    have hR : upd H R (.lst []) R = some (.lst []) := upd_same
    have own1 := own.mono (TupS.of s1)
    generalize upd H R (.lst []) = H1 at s1 hR own1 ⊢
    have LR : L ≠ R := fun x => by rw [x, nR] at hL; cases hL
    have OR : O ≠ R := fun x => by rw [x, nR] at hO; cases hO
    have hL1 := s1 _ _ hL
    have hO1 := s1 _ _ hO
    dsimp only
    rw [gname_eq]
    obtain ⟨v0, hv0⟩ : ∃ v0, os[0]? = some v0 := ⟨_, List.getElem?_eq_getElem (by rw [own.len]; omega)⟩
    refine ⟨_, rfl, L, _, 0, .ref O, rfl, rfl, .inl (.inl hL1), rfl, O, os, 0, v0, rfl, rfl, .inl (.inl hO1), atI_nat (j := 0) hv0, ?_⟩
    dsimp only
    rw [gname_eq]
    refine while_by (fun σ H2 => ∃ (j : Nat) (v : V) (vs : List V) (ps : List Pc), σ = [some (.ref L), some (.ref R), some v] ∧ j ≤ z.length ∧ os[j]? = some v ∧ SameX R H1 H2 ∧ H2 R = some (.lst vs) ∧ All2 (PcV H2) vs ps ∧ B 0 = ps ++ B j ∧ ps.length ≤ j) (fun σ H2 => (B 0).length - (match H2 R with | some (.lst vs) => vs.length | _ => 0)) ⟨0, v0, [], [], rfl, Nat.zero_le _, hv0, .refl _ _, hR, .nil, rfl, Nat.le_refl _⟩ (fun σ H2 p => ?_) ?_
    · obtain ⟨j, v, vs, ps, rfl, jz, hj, sx, hR2, av, eb, lp⟩ := p
      have tx : TupS H1 H2 := TupS.ofX hR sx
      have lv := av.len
      by_cases c : j = z.length
      · subst c
        obtain ⟨t, e1, ht⟩ := own1.last
        rw [hj] at e1
        cases Option.some.inj e1
        refine ⟨_, rfl, t, _, 1, .int 0, rfl, rfl, .inl (.inl (tx _ _ ht)), rfl, false, rfl, iteF ⟨_, rfl, q R H2 vs (fun b o e => sx _ _ (ne_of_none e nR) (s1 _ _ e)) nR hR2 ?_⟩⟩
        rw [eb, own.nil, List.append_nil]
        exact av
      · obtain ⟨v', e, h1, ⟨t, pa, rfl, ht, pc⟩, h3, h4, h5, h6, h7, h8⟩ := own1.ent j (Nat.zero_le _) (by omega)
        rw [hj] at h1
        cases Option.some.inj h1
        have ht2 := tx _ _ ht
        have n1 : e.n = (B e.h).length + 1 := by rw [h4, h7]; rfl
        refine ⟨_, rfl, t, _, 1, .int (e.n : Nat), rfl, rfl, .inl (.inl ht2), rfl, _, rfl, ?_⟩
        rw [show (((e.n : Nat) : Int) != 0) = true by rw [bne_iff_ne]; omega]
        refine iteT ?_
        refine ⟨_, rfl, .inl ⟨rfl, _, .inl (.inl hR2)⟩, _, rfl, t, _, 2, .ref pa, rfl, rfl, .inl (.inl ht2), rfl, R, vs, _, rfl, rfl, hR2, by rw [lv, sizeLine_eq]; omega, ?_⟩
        have tu : TupS H2 (upd H2 R (.lst (vs ++ [.ref pa]))) := tup_upd hR2
        have hR3 : upd H2 R (.lst (vs ++ [.ref pa])) R = some (.lst (vs ++ [.ref pa])) := upd_same
        have sx3 : SameX R H1 (upd H2 R (.lst (vs ++ [.ref pa]))) := sx.trans sameX_upd
        generalize upd H2 R (.lst (vs ++ [.ref pa])) = H3 at tu hR3 sx3 ⊢
        have ht3 := tu _ _ ht2
        obtain ⟨vn, hvn⟩ : ∃ vn, os[e.h]? = some vn := ⟨_, List.getElem?_eq_getElem (by rw [own.len]; omega)⟩
        refine ⟨_, rfl, _, rfl, t, _, 3, .int 0, rfl, rfl, .inl (.inl ht3), rfl, L, _, 0, .ref O, rfl, rfl, .inl (.inl (sx3 _ _ LR hL1)), rfl, _, rfl, t, _, 4, .int (e.h : Nat), rfl, rfl, .inl (.inl ht3), rfl, O, os, (e.h : Nat), vn, rfl, rfl, .inl (.inl (sx3 _ _ OR hO1)), atI_nat hvn, ?_⟩
        refine ⟨⟨e.h, vn, vs ++ [.ref pa], ps ++ [e.p], rfl, h6, hvn, sx3, hR3, (av.mono fun v x g => g.mono tu).snoc ⟨pa, rfl, pc.mono (tx.trans tu)⟩, ?_, ?_⟩, ?_⟩
        · rw [eb, h7, List.append_assoc]
          rfl
        · rw [List.length_append]
          show ps.length + 1 ≤ _
          omega
        · have lB : (B 0).length = ps.length + (1 + (B e.h).length) := by
            rw [eb, List.length_append, h7, List.length_cons]
            omega
          rw [hR3, hR2]
          show (B 0).length - (vs ++ [V.ref pa]).length < (B 0).length - vs.length
          rw [List.length_append]
          show (B 0).length - (vs.length + 1) < _
          omega
    · intro σ H' Q1 Q2 hq h
      obtain ⟨a, ha, p, xs, i, v, e1, e2, e3, e4, k, tv, h⟩ := h
      exact ⟨a, ha, p, xs, i, v, e1, e2, e3, e4, k, tv, hq _ _ h⟩
/-- a pair of a word and a number -/
def PrV (H : Hp) (v : V) (p : Pc) : Prop := ∃ t, v = .ref t ∧ H t = some (.tup [.str (S p.1), .int (p.2 : Nat)])
theorem PrV.mono {H H' : Hp} {v : V} {x : Pc} (h : PrV H v x) (s : TupS H H') : PrV H' v x := by
  obtain ⟨t, e, h2⟩ := h
  exact ⟨t, e, s _ _ h2⟩
def sp_pairs : Sp := fun vs H Q _ => ∃ (l : Addr) (us : List V) (ps : List Pc), vs = [.ref l] ∧ H l = some (.lst us) ∧ All2 (PcV H) us ps ∧ ps.length ≤ 1000 ∧ ∀ R H' vs, Same H H' → H R = none → H' R = some (.lst vs) → All2 (PrV H') vs ps → Q (.ref R) H'
theorem c_plain_pairs (T : Txt K mg C) : C8.Cal P w K mg base 1 "plain_pairs" sp_pairs [] := by
  refine calF T.d_plain_pairs sc_plain_pairs (fun vs H Q E h => ?_) (fun f cdv A outer s0 H vs Q E hr h => ?_)
  · obtain ⟨_, _, _, rfl, _⟩ := h; rfl
  · obtain ⟨l, us, ps, rfl, hl, av, lp, q⟩ := h
    have lu := av.len
    refine ⟨_, (pss_one (ps_ret (pe_lc (own := [("part", 1), ("form", 2)]) (by rfl) sc_plain_pairs.nd (pi_list (pv 0)) (blkOk_by (N := ["pieces", "part", "form"]) (sc := C8.fnScope (topS 37)) (own := [("part", 1), ("form", 2)]) (by decide +kernel)) (fun _ _ _ _ _ => (pg_two (K := K) (i := 1) (j := 2) rfl rfl sc_plain_pairs.nd rfl rfl (Or.inl rfl) (Or.inl rfl))) (fun _ _ _ _ _ => pts_nil) (fun _ _ _ _ _ => (pe_tup (pa_cons (pv 1) (pa_cons (pe_ix ix_tupH (pv 2) pe_int (fun _ _ => rfl)) pa_nil))))))), ?_⟩
    refine ⟨_, rfl, l, rfl, ⟨_, .inl (.inl hl)⟩, fun D hD => ?_⟩
    refine lc_list (K := K) (a := l) (xs := us) (fun i H2 => Same H H2 ∧ ∃ vs, H2 D = some (.lst vs) ∧ All2 (PrV H2) vs (ps.take i)) ⟨sameNew hD, [], upd_same, .nil⟩ (fun i H2 _ p => .inl (.inl (p.1 _ _ hl))) (fun i y H2 hi p => ?_) fun H2 p => ?_
    · obtain ⟨s2, vs, hvs, pv⟩ := p
      obtain ⟨p, hp, pa, rfl, fa, h1, h2⟩ := av.get hi
      have h1' := s2 _ _ h1
      have h2' : H2 fa = some (.tup [.int (p.2 : Nat)]) := s2 _ _ h2
      refine ⟨pa, _, rfl, .inl (.inl h1'), rfl, _, _, rfl, _, _, rfl, rfl, rfl, yes_if ⟨_, rfl, _, rfl, fa, _, 0, .int (p.2 : Nat), rfl, rfl, h2', rfl, by show 2 ≤ sizeLine; decide, fun u nu => ?_⟩⟩
      have su := sameNew (o := .tup [.str (S p.1), .int (p.2 : Nat)]) nu
      have lp2 := pv.len
      rw [List.length_take] at lp2
      have tu : TupS (upd H2 u (.tup [.str (S p.1), .int (p.2 : Nat)])) (upd (upd H2 u (.tup [.str (S p.1), .int (p.2 : Nat)])) D (.lst (vs ++ [.ref u]))) := tup_upd (su _ _ hvs)
      refine ⟨vs, su _ _ hvs, by rw [lp2, sizeLine_eq]; omega, same_upd2 hD (s2.trans su), vs ++ [.ref u], upd_same, ?_⟩
      rw [List.take_succ, hp]
      exact ((pv.mono fun v x g => g.mono (TupS.of su)).mono fun v x g => g.mono tu).app (.cons ⟨u, rfl, tu _ _ upd_same⟩ .nil)
    · obtain ⟨s2, vs, hvs, pv⟩ := p
      rw [lu, List.take_length] at pv
      exact q D H2 vs s2 hD hvs pv
end
end K61

set_option Elab.async false
set_option linter.all false
set_option maxRecDepth 100000
set_option maxHeartbeats 4000000
namespace K61
open PySem PySem.Spec PyProof.Rows L2 CK SX NM PySem.W
open LP (Pc leL leR leStep c1 StepOk opts Best cost)
theorem own_low {a s : Nat} {z : List Nat} {H : Hp} {os : List V} {B : Nat → List Pc} (own : OwnP a s z H os B 0) : ∀ (m n j : Nat), n ≤ m → j + n = z.length → (∀ p ∈ B j, Low p.1) ∧ (B j).length ≤ n
  | m, 0, j, _, e => by
    have : j = z.length := by omega
    rw [this, own.nil]
    exact ⟨fun p h => (nomatch h), Nat.le_refl _⟩
  | 0, n + 1, j, h, _ => by omega
  | m + 1, n + 1, j, h, e => by
    obtain ⟨v, x, h1, h2, h3, h4, h5, h6, h7, h8⟩ := own.ent j (Nat.zero_le _) (by omega)
    obtain ⟨i1, i2⟩ := own_low own m (z.length - x.h) x.h (by omega) (by omega)
    rw [h7]
    refine ⟨fun p hp => ?_, by rw [List.length_cons]; omega⟩
    rcases List.mem_cons.mp hp with rfl | hp
    · exact h8
    · exact i1 p hp
section
variable {P : Program} {w : World} {K : PySem.W.Frag} {mg : Str → Option Value} {base : Heap} {C : Addr} {f : Addr} {fd : FuncData}
def sp_need_word : Sp := fun vs H Q _ => ∃ (z : List Nat), vs = [.str (S z)] ∧ z.length ≤ 20000 ∧ Low z ∧ Q .non H
theorem c_need_word (T : Txt K mg C) : C8.Cal P w K mg base 4 "need_word" sp_need_word [] := by
  refine calF T.d_need_word sc_need_word (fun vs H Q E h => ?_) (fun f cdv A outer s H vs Q E hr h => ?_)
  · obtain ⟨_, rfl, _⟩ := h; rfl
  · obtain ⟨z, rfl, hz, lz, q⟩ := h
    refine ⟨_, (pss_one (ps_if (pt_not (pt_val (C8.pe_c (c_is_lettered T) hr (by decide) (by rfl) (pa_cons (pv 0) (pa_cons (C8.pe_gc (by rfl) T.k_MOST_LETTERS) pa_nil)))))
    (pss_one ps_never)
    pss_nil)), ?_⟩
    refine ⟨_, rfl, z, 20000, rfl, by omega, lz, _, rfl, ?_⟩
    rw [decide_eq_true hz]
    exact iteF q
/-- what is told: the cost and the writer -/
def ToldV (H : Hp) (a s : Nat) (v : V) (l : Addr) (W : List Pc) : Prop := ∃ t vs, v = .ref t ∧ H t = some (.tup [.int (cost a s W : Nat), .ref l]) ∧ H l = some (.lst vs) ∧ All2 (PrV H) vs W
theorem ToldV.same {H H' : Hp} {a s : Nat} {v : V} {l : Addr} {W : List Pc} (h : ToldV H a s v l W) (g : Same H H') : ToldV H' a s v l W := by
  obtain ⟨t, vs, e, h1, h2, h3⟩ := h
  exact ⟨t, vs, e, g _ _ h1, g _ _ h2, h3.mono fun v x r => r.mono (TupS.of g)⟩
def sp_least (C : Addr) : Sp := fun vs H Q _ => ∃ (z : List Nat) (v : V) (a b c d : Nat), vs = [.str (S z), v] ∧ Low z ∧ z.length ≤ 200 ∧ ((v = .non ∧ a = 1 ∧ b = 1 ∧ c = 1 ∧ d = 1) ∨ ∃ pr, v = .ref pr ∧ PrB C H pr a b c d) ∧ ∀ r l H' W, Same H H' → H l = none → ToldV H' a (b + d) r l W → Best a (b + d) z W → (∀ p ∈ W, Low p.1) → Q r H'
abbrev FLP (K : PySem.W.Frag) (f : Addr) (fd : FuncData) := FunD K "least_plain" "least_plain" (C8.fnArgs (topS 36)) (C8.fnBody (topS 36)) (C8.fnScope (topS 36)) [.non] [] f fd
theorem ok_least (T : Txt K mg C) (F : FLP K f fd) : FnOk P w K mg base C8.CX0 8 f fd ["word", "prices"] (sp_least C) := by
  refine C8.fn0 (fun_of F) sc_least_plain (fun vs H Q E h => ?_) (fun cdv A outer s H vs Q E hr h => ?_)
  · obtain ⟨_, _, _, _, _, _, rfl, _⟩ := h; rfl
  · obtain ⟨z, v, a, b, c, d, rfl, low, zl, hv, q⟩ := h
    refine ⟨_, (pss_cons (ps_expr (C8.pe_c (c_need_word T) hr (by decide) (by rfl) (pa_cons (pv 0) pa_nil)))
    (pss_cons (ps_set (i := 2) sc_least_plain.nd rfl (Or.inl rfl) (C8.pe_c (c_best_rests T) hr (by decide) (by rfl) (pa_cons (pv 0) (pa_cons (pe_lst pa_nil) (pa_cons pe_int (pa_cons (C8.pe_c (c_chosen_prices T) hr (by decide) (by rfl) (pa_cons (pv 1) pa_nil)) pa_nil))))))
    (pss_one (ps_ret (pe_tup (pa_cons (pe_ix ix_tup (pe_ix ix_list (pe_ix ix_list (pv 2) pe_int (fun _ _ => rfl)) pe_int (fun _ _ => rfl)) pe_int (fun _ _ => rfl)) (pa_cons (C8.pe_c (c_plain_pairs T) hr (by decide) (by rfl) (pa_cons (C8.pe_c (c_best_pieces T) hr (by decide) (by rfl) (pa_cons (pv 2) pa_nil)) pa_nil)) pa_nil))))))), ?_⟩
    refine ⟨_, rfl, z, rfl, by omega, low, ?_⟩
    refine ⟨_, rfl, by show 0 ≤ sizeLine; decide, fun bl nbl => ?_⟩
    have s1 := sameNew (o := .lst []) nbl
    have hbl : upd H bl (.lst []) bl = some (.lst []) := upd_same
    have hv1 : (v = .non ∧ a = 1 ∧ b = 1 ∧ c = 1 ∧ d = 1) ∨ ∃ pr, v = .ref pr ∧ PrB C (upd H bl (.lst [])) pr a b c d := hv.imp id fun ⟨pr, e, h⟩ => ⟨pr, e, h.same s1⟩
    generalize upd H bl (.lst []) = H1 at s1 hbl hv1 ⊢
    have fin : ∀ pr H2, Same H1 H2 → PrB C H2 pr a b c d → sp_rests (C := C) [.str (S z), .ref bl, .int 0, .ref pr] H2 (fun x H3 => gName 2 x [some (.str (S z)), some v, none] H3 fun σ H4 => (tRet
      (tTup (tCons (tOp (rIxT K) (tOp (rIxL K) (tOp (rIxL K) (tVar 2) (tC (V.int 0))) (tC (V.int 0))) (tC (V.int 0))) (tCons (tCall sp_pairs [] C8.E0 (tCons (tCall sp_bpieces [] C8.E0 (tCons (tVar 2) tNil)) tNil)) tNil))) : TS) { nx := fun _ H' => Q .non H', rt := Q } σ H4) C8.E0 := fun pr H2 s2 pb => by
      refine ⟨z, bl, pr, a, b, c, d, rfl, s2 _ _ hbl, low, zl, pb, fun L O H3 os B s3 hL hO own => ?_⟩
      dsimp only
      rw [gname_eq]
      obtain ⟨v0, hv0⟩ : ∃ v0, os[0]? = some v0 := ⟨_, List.getElem?_eq_getElem (by rw [own.len]; omega)⟩
      have hb0 := own.best 0 (Nat.le_refl _) (Nat.zero_le _)
      rw [List.drop_zero] at hb0
      have r0 : RestV H3 v0 (cost a (b + d) (B 0)) (B 0).length ∧ (∀ p ∈ B 0, Low p.1) ∧ (B 0).length ≤ 200 := by
        obtain ⟨l1, l2⟩ := own_low own z.length z.length 0 (Nat.le_refl _) (by omega)
        refine ⟨?_, l1, by omega⟩
        by_cases c0 : 0 = z.length
        · obtain ⟨t, e1, ht⟩ := own.last
          rw [← c0, hv0] at e1
          cases Option.some.inj e1
          have := own.nil
          rw [← c0] at this
          rw [this]
          exact ⟨t, [], rfl, ht⟩
        · obtain ⟨v', e, h1, h2, h3, h4, _⟩ := own.ent 0 (Nat.le_refl _) (by omega)
          rw [hv0] at h1
          cases Option.some.inj h1
          rw [← h3, ← h4]
          exact h2.rest
      obtain ⟨⟨t0, rx, rfl, ht0⟩, lowB, lB⟩ := r0
      refine ⟨_, rfl, L, _, 0, .ref O, rfl, rfl, .inl (.inl hL), rfl, O, os, 0, .ref t0, rfl, rfl, .inl (.inl hO), atI_nat (j := 0) hv0, t0, _, 0, _, rfl, rfl, .inl (.inl ht0), atI_nat (j := 0) rfl, ?_⟩
      refine ⟨_, rfl, L, O, os, z, B, a, b + d, rfl, hL, hO, own, zl, fun R H4 vs s4 nR hR av => ?_⟩
      refine ⟨R, vs, B 0, rfl, hR, av, by omega, fun R2 H5 vs2 s5 nR2 hR2 av2 => ?_⟩
      refine ⟨by show 2 ≤ sizeLine; decide, fun t nt => ?_⟩
      have st := sameNew (o := .tup [.int (cost a (b + d) (B 0) : Nat), .ref R2]) nt
      exact q (.ref t) R2 _ (B 0) ((s1.trans s2).trans (s3.trans (s4.trans (s5.trans st)))) ((s1.trans s2).free ((s3.trans s4).free nR2)) ⟨t, vs2, rfl, upd_same, st _ _ hR2, av2.mono fun v x r => r.mono (TupS.of st)⟩ hb0 lowB
    rcases hv1 with ⟨rfl, rfl, rfl, rfl, rfl⟩ | ⟨pr, rfl, pb⟩
    · refine ⟨_, rfl, .inl ⟨rfl, fun p H2 s2 hp => ?_⟩⟩
      exact fin p H2 s2 ⟨hp, by decide, by decide, by decide, by decide, by decide⟩
    · exact ⟨_, rfl, .inr ⟨pr, a, b, c, d, rfl, pb.1, fin pr H1 (Same.refl _) pb⟩⟩
theorem c_least_plain (T : Txt K mg C) : C8.Cal P w K mg base 8 "least_plain" (sp_least C) [] := by
  obtain ⟨f, fd, F, hm⟩ := T.d_least_plain.ex
  obtain ⟨ds, h1, h2⟩ := F.binds1 (ps := ["word", "prices"]) 2 1 (List.cons_ne_nil _ _) rfl fun T' kV doc pm an cdv ct us its l1 l2 => by
    match us, l1, its, l2 with
    | [u, v], _, [d], _ => exact ⟨_, rfl, rfl⟩
  exact ⟨f, fd, _, ds, ok_least T F, hm, F.kp, h2, h1⟩
theorem c_least_plain_D1 (T : Txt K mg C) : C8.Cal P w K mg base 8 "least_plain" (sp_least C) [.non] := by
  obtain ⟨f, fd, F, hm⟩ := T.d_least_plain.ex
  obtain ⟨ds, h1, h2⟩ := F.binds1 (ps := ["word", "prices"]) 1 0 (List.cons_ne_nil _ _) rfl fun T' kV doc pm an cdv ct us its l1 l2 => by
    match us, l1, its, l2 with
    | [u], _, [d], _ => exact ⟨_, rfl, rfl⟩
  exact ⟨f, fd, _, ds, ok_least T F, hm, F.kp, h2, h1⟩
theorem c_least_plain_K_word_prices (T : Txt K mg C) : CalN P w K mg base 8 "least_plain" ["word", "prices"] (sp_least C) (fun vs zs => vs ++ (at1 zs 0 ++ at1 zs 1)) := by
  obtain ⟨f, fd, F, hm⟩ := T.d_least_plain.ex
  obtain ⟨its, h⟩ := FunD.kbindsD (ps := ["word", "prices"]) F 0 ["word", "prices"] (fun us _ ws => us ++ (at1 ws 0 ++ at1 ws 1)) (List.cons_ne_nil _ _) (fun r1 _ r2 => r1.append ((at1_rel r2 0).append (at1_rel r2 1))) fun T' kV doc pm an cdv ct us its ws l1 l2 l3 => by
    match us, l1, its, l2, ws, l3 with
    | [], _, [d], _, [u, v], _ => exact ⟨_, rfl, rfl⟩
  exact ⟨f, fd, _, _, ok_least T F, hm, F.kp, h⟩
end
end K61

set_option Elab.async false
set_option linter.all false
set_option maxRecDepth 100000
set_option maxHeartbeats 4000000
namespace K61
open PySem PySem.Spec PyProof.Rows L2 CK SX NM
theorem shaped_dF (f : F) : SeqAt.shaped (dF f) = true := by
  unfold SeqAt.shaped dF
  rw [PyData.canLay0, lay_nats, PyData.depth, deep_nats]
  decide
theorem eqv_dF (f g : F) : PyData.eqv (dF f) (dF g) = decide (f = g) := by
  unfold dF
  simp only [PyData.eqv, eqvAll_nats]
theorem noneX {g L : Addr} {H H' : Hp} {n : Nat} (s : SameX g H H') (G : Gn n H' g) (h : H' L = none) : H L = none := by
  cases e : H L with
  | none => rfl
  | some o =>
    rw [s _ _ (G.ne h) e] at h
    cases h
theorem e29 : (10 : Int) ^ Int.toNat 29 = ((10 ^ 29 : Nat) : Int) := by decide +kernel

section
variable {P : Program} {w : World} {K : PySem.W.Frag} {mg : Str → Option Value} {base : Heap} {C : Addr}
/-- four prices -/
def sp_four : Sp := fun vs H Q _ => ∃ (g : Addr) (n : Nat), vs = [.ref g] ∧ Gn (n + 10) H g ∧ ∀ (L : Addr) (a b c d : Nat) H', SameX g H H' → Gn n H' g → H L = none → H' L = some (.lst [.int a, .int b, .int c, .int d]) → 1 ≤ a → a < 2 ^ 100 → b < 2 ^ 100 → c < 2 ^ 100 → d < 2 ^ 100 → Q (.ref L) H'
theorem c_law_four (T : Txt K mg C) : C8.Cal P w K mg base 3 "_law_four" sp_four [] := by
  refine calF T.d_law_four sc_law_four (fun vs H Q E h => ?_) (fun f0 cdv A outer s0 H vs Q E hr h => ?_)
  · obtain ⟨_, _, rfl, _⟩ := h; rfl
  · obtain ⟨g, n, rfl, G, q⟩ := h
    refine ⟨_, (pss_cons (ps_set (i := 1) sc_law_four.nd rfl (Or.inr rfl) (pe_ix ix_list (pe_lst (pa_cons pe_int (pa_cons pe_int (pa_cons pe_int (pa_cons (pe_op op_powB pe_int pe_int) pa_nil))))) (C8.pe_c (c_law_random T) hr (by decide) (by rfl) (pa_cons (pv 0) (pa_cons pe_int pa_nil))) (fun _ _ => rfl)))
    (pss_one (ps_ret (pe_op op_cat (pe_lst (pa_cons (pe_op op_add pe_int (C8.pe_c (c_law_random T) hr (by decide) (by rfl) (pa_cons (pv 0) (pa_cons (pv 1) pa_nil)))) pa_nil)) (pe_lc (own := [("_law_turn", 2)]) (by rfl) sc_law_four.nd (pi_range1 (by rfl) T.m_range (pa_cons pe_int pa_nil)) (blkOk_by (N := ["_law_generator_here", "_law_most", "_law_turn"]) (sc := C8.fnScope (topS 45)) (own := [("_law_turn", 2)]) (by decide +kernel)) (fun _ _ _ _ _ => (pg_name (i := 2) sc_law_four.nd rfl (Or.inl rfl))) (fun _ _ _ _ _ => pts_nil) (fun _ _ _ _ _ => (C8.pe_c (c_law_random T) hr (by decide) (by rfl) (pa_cons (pv 0) (pa_cons (pv 1) pa_nil))))))))), ?_⟩
    refine ⟨_, _, rfl, rfl, ⟨by decide, by decide⟩, by show 4 ≤ sizeLine; decide, fun D0 nD0 => ?_⟩
    dsimp only at nD0 ⊢
    rw [e29]
    have s1 := sameNew (o := .lst [.int 2, .int 4, .int 9, .int ((10 ^ 29 : Nat) : Int)]) nD0
    have hD0 : upd H D0 (.lst [.int 2, .int 4, .int 9, .int ((10 ^ 29 : Nat) : Int)]) D0 = some (.lst (([2, 4, 9, 10 ^ 29] : List Nat).map fun n : Nat => V.int (n : Nat))) := upd_same
    have G1 := G.same s1
    have D0g := G.ne nD0
    generalize upd H D0 (.lst [.int 2, .int 4, .int 9, .int ((10 ^ 29 : Nat) : Int)]) = H1 at s1 hD0 G1
    refine ⟨_, rfl, g, 4, n + 9, rfl, G1, by decide, by decide, fun r H2 s2 G2 r0 r1 => ?_⟩
    obtain ⟨k, rfl⟩ : ∃ k : Nat, r = k := ⟨r.toNat, by omega⟩
    have hk : k < ([2, 4, 9, 10 ^ 29] : List Nat).length := by show k < 4; omega
    have hz := List.getElem?_eq_getElem hk
    have hv : ∀ x ∈ ([2, 4, 9, 10 ^ 29] : List Nat), 2 ≤ x ∧ x < 2 ^ 98 := by decide
    have hx := hv _ (List.getElem_mem hk)
    generalize ([2, 4, 9, 10 ^ 29] : List Nat)[k] = x at hz hx
    have at1 : (([2, 4, 9, 10 ^ 29] : List Nat).map fun n : Nat => V.int (n : Nat))[k]? = some (.int (x : Nat)) := by rw [List.getElem?_map, hz]; rfl
    refine ⟨D0, _, (k : Int), .int (x : Nat), rfl, rfl, .inl (.inl (s2 _ _ D0g hD0)), atI_nat at1, ?_⟩
    refine ⟨_, rfl, _, rfl, g, x, n + 8, rfl, G2, by omega, by omega, fun r H3 s3 G3 r0 r1 => ⟨_, _, rfl, rfl, by show 1 ≤ sizeLine; decide, fun L1 nL1 => ?_⟩⟩
    obtain ⟨a, ea⟩ : ∃ a : Nat, 1 + r = a := ⟨(1 + r).toNat, by omega⟩
    dsimp only at nL1 ⊢
    rw [ea]
    have s4 := sameNew (o := .lst [.int (a : Nat)]) nL1
    have hL1 : upd H3 L1 (.lst [.int (a : Nat)]) L1 = some (.lst [.int (a : Nat)]) := upd_same
    have G4 := G3.same s4
    have L1g := G3.ne nL1
    generalize upd H3 L1 (.lst [.int (a : Nat)]) = H4 at s4 hL1 G4
    refine ⟨3, rfl, by decide, by decide, fun D hD => ?_⟩
    refine lcP_draw (lo := 0) (g := g) (n := n) (cnt := 3) (fun v => ∃ c : Nat, v = V.int (c : Nat) ∧ c < x) (small5 (by omega)) hD (G4.le (by omega)) (fun i H5 R hi s5 G5 q' => ?_) fun H5 ns s5 G5 hL hl hP => ?_
    · exact ⟨rfl, _, rfl, _, rfl, g, x, _, rfl, G5, by omega, by omega, fun r' H6 s6 G6 r0' r1' => q' _ H6 s6 G6 ⟨r'.toNat, congrArg V.int (by omega), by omega⟩⟩
    · obtain ⟨cs, rfl, hcs, lcs⟩ := Nn_of hP
      have l3 : cs.length = 3 := lcs.trans hl
      match cs, l3 with
      | [b, c, d], _ =>
        have hb := hcs b (by simp)
        have hc := hcs c (by simp)
        have hd := hcs d (by simp)
        refine ⟨L1, D, _, _, rfl, rfl, s5 _ _ L1g hL1, hL, by rw [sizeLine_eq]; simp, fun L nL => ?_⟩
        have s05 : SameX g H H5 := (SameX.of s1).trans (s2.trans (s3.trans ((SameX.of s4).trans s5)))
        exact q L a b c d _ (s05.trans (.of (sameNew nL))) (G5.same (sameNew nL)) (noneX s05 G5 nL) upd_same (by omega) (by omega) (by omega) (by omega) (by omega)
/-- prices of four numbers -/
def sp_lprices (C : Addr) : Sp := fun vs H Q _ => ∃ (L : Addr) (a b c d : Nat), vs = [.ref L] ∧ H L = some (.lst [.int a, .int b, .int c, .int d]) ∧ 1 ≤ a ∧ ∀ p H', Same H H' → PrO C H' p a b c d → Q (.ref p) H'
theorem c_law_prices (T : Txt K mg C) : C8.Cal P w K mg base 5 "_law_prices" (sp_lprices C) [] := by
  refine calF T.d_law_prices sc_law_prices (fun vs H Q E h => ?_) (fun f0 cdv A outer s0 H vs Q E hr h => ?_)
  · obtain ⟨_, _, _, _, _, rfl, _⟩ := h; rfl
  · obtain ⟨L, a, b, c, d, rfl, hL, h1, q⟩ := h
    refine ⟨_, (pss_one (ps_ret (pe_mkN (n_Prices_K_letter_sign_unknown_number T) hr (by decide) (by rfl) (pk_cons (pe_ix ix_list (pv 0) pe_int (fun _ _ => rfl)) (pk_cons (pe_ix ix_list (pv 0) pe_int (fun _ _ => rfl)) (pk_cons (pe_ix ix_list (pv 0) pe_int (fun _ _ => rfl)) (pk_cons (pe_ix ix_list (pv 0) pe_int (fun _ _ => rfl)) pk_nil))))))), ?_⟩
    refine ⟨_, rfl, L, _, 0, .int (a : Nat), rfl, rfl, .inl (.inl hL), atI_nat (j := 0) rfl, _, rfl, L, _, 1, .int (b : Nat), rfl, rfl, .inl (.inl hL), atI_nat (j := 1) rfl, _, rfl, L, _, 2, .int (c : Nat), rfl, rfl, .inl (.inl hL), atI_nat (j := 2) rfl, _, rfl, L, _, 3, .int (d : Nat), rfl, rfl, .inl (.inl hL), atI_nat (j := 3) rfl, rfl, rfl, fun x dx nx ndx nex => ?_⟩
    exact mk_pr nx ndx nex h1 fun H' s h => ⟨rfl, q x H' s h⟩
end
end K61

set_option Elab.async false
set_option linter.all false
set_option maxRecDepth 100000
set_option maxHeartbeats 4000000
namespace K61
open PySem PySem.Spec PyProof.Rows L2 CK SX NM PySem.W
open LP (Pc leL leR leStep c1 StepOk opts Best cost Okp spell IsW)
theorem joinL_nil : ∀ xs : List (List Nat), TL.joinL [] xs = xs.flatten
  | [] => rfl
  | [x] => by
    show x = _
    simp
  | x :: y :: r => by
    show x ++ ([] ++ TL.joinL [] (y :: r)) = _
    rw [joinL_nil (y :: r), List.nil_append]
    rfl
theorem join_flat (xs : List (List Nat)) : Txt.join (Str.ofString "") (xs.map S) = S xs.flatten := by
  rw [empty_S, join_S [] xs, joinL_nil]
theorem len_flatS : ∀ xs : List (List Nat), ((xs.map S).map fun x => x.length).sum = xs.flatten.length
  | [] => rfl
  | x :: r => by
    have ih := len_flatS r
    rw [List.map_cons, List.map_cons, List.sum_cons, List.flatten_cons, List.length_append, ih, S_len]
theorem spell_flat : ∀ W : List Pc, spell W = (W.map fun p => WM.pw p.1 p.2).flatten
  | [] => rfl
  | p :: r => by rw [spell, spell_flat r]; rfl
/-- a list of pairs -/
def WrL (H : Hp) (l : Addr) (W : List Pc) : Prop := ∃ vs, H l = some (.lst vs) ∧ All2 (PrV H) vs W
theorem WrL.same {H H' : Hp} {l : Addr} {W : List Pc} (h : WrL H l W) (s : Same H H') : WrL H' l W := by
  obtain ⟨vs, e, a⟩ := h
  exact ⟨vs, s _ _ e, a.mono fun v x g => g.mono (TupS.of s)⟩
def dWp (p : Pc) : PyData := .tuple [.str (S p.1), .int (p.2 : Nat)]
theorem PrV.dp {K : PySem.W.Frag} {H : Hp} {v : V} {x : Pc} (h : PrV H v x) : Dp K H v (dWp x) := by
  obtain ⟨t, rfl, h1⟩ := h
  exact .tup (.inl (.inl h1)) (.cons (.str _) (.cons (.int _) .nil))
theorem WrL.dp {K : PySem.W.Frag} {H : Hp} {l : Addr} {W : List Pc} (h : WrL H l W) : Dp K H (.ref l) (.list (W.map dWp)) := by
  obtain ⟨vs, e, a⟩ := h
  exact .lst (.inl (.inl e)) (a.dps fun v x g => g.dp)
def LowW (W : List Pc) : Prop := ∀ p ∈ W, Low p.1
theorem lay_W : ∀ W : List Pc, LowW W → PyData.canLayAll0 (W.map dWp) = true
  | [], _ => by simp [PyData.canLayAll0]
  | p :: r, h => by
    rw [List.map_cons, PyData.canLayAll0, lay_W r fun q hq => h q (List.mem_cons_of_mem _ hq)]
    simp [dWp, PyData.canLay0, PyData.canLayAll0, str_low (h p List.mem_cons_self)]
theorem deep_W : ∀ W : List Pc, PyData.depthAll (W.map dWp) ≤ 1
  | [] => by simp [PyData.depthAll]
  | p :: r => by
    have := deep_W r
    rw [List.map_cons, PyData.depthAll]
    have : (dWp p).depth = 1 := by simp [dWp, PyData.depth, PyData.depthAll]
    omega
theorem shaped_W {W : List Pc} (h : LowW W) : SeqAt.shaped (.list (W.map dWp)) = true := by
  unfold SeqAt.shaped
  rw [PyData.canLay0, lay_W W h, PyData.depth]
  have := deep_W W
  simp
  omega
section
variable {P : Program} {w : World} {K : PySem.W.Frag} {mg : Str → Option Value} {base : Heap} {C : Addr}
def Drw (W : List Pc) : Prop := W.length ≤ 4 ∧ ∀ p ∈ W, Okp p ∧ p.1.length ≤ 3 ∧ p.2 ≤ 4 ∧ Low p.1
def sp_law_parts : Sp := fun vs H Q _ => ∃ (g : Addr) (cs : List Nat) (n : Nat), vs = [.ref g, .str (S cs), .int 4] ∧ cs ≠ [] ∧ cs.length ≤ 26 ∧ Low cs ∧ Gn (n + 100) H g ∧ ∀ L W H', SameX g H H' → Gn n H' g → L ≠ g → WrL H' L W → Drw W → Q (.ref L) H'
theorem c_law_parts (T : Txt K mg C) : C8.Cal P w K mg base 4 "_law_parts" sp_law_parts [] := by
  refine calF T.d_law_parts sc_law_parts (fun vs H Q E h => ?_) (fun f cdv A outer s0 H vs Q E hr h => ?_)
  · obtain ⟨_, _, _, rfl, _⟩ := h; rfl
  · obtain ⟨g, cs, n, rfl, ne, l26, low, G, q⟩ := h
    refine ⟨_, (pss_cons (ps_set (i := 3) sc_law_parts.nd rfl (Or.inl rfl) (pe_lst pa_nil))
    (pss_cons (ps_for PassesOwn.never rfl (pi_range1 (by rfl) T.m_range (pa_cons (C8.pe_c (c_law_random T) hr (by decide) (by rfl) (pa_cons (pv 0) (pa_cons (pe_op op_add (pv 2) pe_int) pa_nil))) pa_nil)) (pg_name (i := 4) sc_law_parts.nd rfl (Or.inl rfl))
    (pss_cons (ps_set (i := 5) sc_law_parts.nd rfl (Or.inl rfl) (C8.pe_c (c_law_word T) hr (by decide) (by rfl) (pa_cons (pv 0) (pa_cons (pv 1) (pa_cons pe_int (pa_cons pe_int pa_nil))))))
    (pss_cons (ps_if (PW.pt (pw_and (pt_cmpR (op_neD hr.units) (pv 3) (pe_lst pa_nil) (nomark _)) (pw_and1 (pt_cmpR op_eq (C8.pe_c (c_law_random T) hr (by decide) (by rfl) (pa_cons (pv 0) (pa_cons pe_int pa_nil))) pe_int (nomark _)))))
    (pss_one (ps_set (i := 5) sc_law_parts.nd rfl (Or.inl rfl) (pe_ix ix_tup (pe_ix ix_list (pv 3) (pe_un un_neg pe_int) (fun _ _ => rfl)) pe_int (fun _ _ => rfl))))
    pss_nil)
    (pss_one (ps_expr (pe_bm PySem.F.plainAttrs_list PySem.F.slot_list_append PySem.F.type_list_append mt_append (pv 3) (pa_cons (pe_tup (pa_cons (pv 5) (pa_cons (pe_op op_add pe_int (C8.pe_c (c_law_random T) hr (by decide) (by rfl) (pa_cons (pv 0) (pa_cons pe_int pa_nil)))) pa_nil))) pa_nil)))))))
    (pss_one (ps_ret (pv 3))))), ?_⟩
    refine ⟨by show 0 ≤ sizeLine; decide, fun L nL => ?_⟩
    have s1 := sameNew (o := .lst []) nL
    have hL : upd H L (.lst []) L = some (.lst []) := upd_same
    have Lg := G.ne nL
    have G1 := G.same s1
    generalize upd H L (.lst []) = H1 at s1 hL G1 ⊢
    dsimp only
    rw [gname_eq]
    refine ⟨_, rfl, _, rfl, 4, 1, rfl, rfl, g, 5, n + 99, rfl, G1, by decide, by decide, fun k0 H2 s2 G2 z0 z1 => ⟨k0, rfl, by omega, by omega, ?_⟩⟩
    obtain ⟨k, rfl⟩ : ∃ k : Nat, k0 = k := ⟨k0.toNat, by omega⟩
    refine for_it walk_range (fun i σ HH => SameX g H HH ∧ i ≤ k ∧ Gn (n + 20 * (4 - i)) HH g ∧ ∃ (y4 y5 : Option V) (W : List Pc), σ = [some (.ref g), some (.str (S cs)), some (.int 4), some (.ref L), y4, y5] ∧ WrL HH L W ∧ W.length = i ∧ ∀ p ∈ W, Okp p ∧ p.1.length ≤ 3 ∧ p.2 ≤ 4 ∧ Low p.1) ⟨(SameX.of s1).trans s2, Nat.zero_le _, G2.le (by omega), none, none, [], rfl, ⟨[], s2 _ _ Lg hL, .nil⟩, rfl, fun p h => nomatch h⟩ (fun _ _ _ _ _ => True.intro) (fun i x σ HH HH' hi p yy => ?_) fun σ HH p => ?_
    · obtain ⟨sx, _, G3, y4, y5, W, rfl, ⟨vs, hv, av⟩, lW, dW⟩ := p
      obtain ⟨rfl, rfl⟩ := yy
      have ik : i < k := by
        have : i < ((k : Nat) : Int).toNat := hi
        omega
      rw [show n + 20 * (4 - i) = n + 20 * (4 - (i + 1)) + 20 by omega] at G3
      rw [gname_eq]
      refine ⟨_, rfl, _, rfl, g, cs, n + 20 * (4 - (i + 1)) + 10, 1, 3, rfl, ne, l26, low, G3, by decide, by decide, fun z H4 s4 G4 z1 z3 lz => ?_⟩
      dsimp only
      rw [gname_eq]
      have hv4 := s4 _ _ Lg hv
      have av4 := av.mono fun v x r => r.mono (fun b xs e => s4.tup G3 e)
      refine joinS (a := tIfS _ _ _) (fun σ' HX => ∃ z', σ' = [some (.ref g), some (.str (S cs)), some (.int 4), some (.ref L), some (.int (0 + (i : Int))), some (.str (S z'))] ∧ 1 ≤ z'.length ∧ z'.length ≤ 3 ∧ Low z' ∧ SameX g H4 HX ∧ Gn (n + 20 * (4 - (i + 1)) + 5) HX g) (fun σ' HX p => ?_) fun U hU => ?_
      · obtain ⟨z', rfl, z1', z3', lz', s5, G5⟩ := p
        have hv5 := s5 _ _ Lg hv4
        have av5 := av4.mono fun v x r => r.mono (fun b xs e => s5.tup G4 e)
        refine ⟨_, rfl, .inl ⟨rfl, _, .inl (.inl hv5)⟩, _, rfl, _, rfl, g, 4, n + 20 * (4 - (i + 1)) + 4, rfl, G5, by decide, by decide, fun r H6 s6 G6 r0 r1 => ⟨_, _, rfl, rfl, by show 2 ≤ sizeLine; decide, fun t nt => ?_⟩⟩
        obtain ⟨r', er⟩ : ∃ r' : Nat, 1 + r = r' := ⟨(1 + r).toNat, by omega⟩
        dsimp only at nt ⊢
        rw [er]
        have st := sameNew (o := .tup [.str (S z'), .int (r' : Nat)]) nt
        have hv6 := st _ _ (s6 _ _ Lg hv5)
        have av6 := (av5.mono fun v x r => r.mono (fun b xs e => s6.tup G5 e)).mono fun v x r => r.mono (TupS.of st)
        have pv : PrV (upd H6 t (.tup [.str (S z'), .int (r' : Nat)])) (.ref t) (z', r') := ⟨t, rfl, upd_same⟩
        have x6 : SameX g H (upd H6 t (.tup [.str (S z'), .int (r' : Nat)])) := sx.trans (s4.trans (s5.trans (s6.trans (.of st))))
        have G7 := G6.same st
        generalize upd H6 t (.tup [.str (S z'), .int (r' : Nat)]) = H7 at hv6 av6 pv x6 G7 ⊢
        have tu : TupS H7 (upd H7 L (.lst (vs ++ [.ref t]))) := tup_upd hv6
        refine ⟨L, vs, _, rfl, rfl, hv6, by rw [av.len, lW, sizeLine_eq]; omega, x6.upd2 nL, ik, (G7.upd Lg).le (by omega), _, _, W ++ [(z', r')], rfl, ⟨_, upd_same, (av6.mono fun v x r => r.mono tu).snoc (pv.mono tu)⟩, by rw [List.length_append, lW]; rfl, fun p hp => ?_⟩
        rcases List.mem_append.mp hp with h | h
        · exact dW p h
        · rw [List.mem_singleton.mp h]
          exact ⟨⟨fun e => by (have e : z' = [] := e; rw [e] at z1'; exact absurd z1' (by decide)), by show 1 ≤ r'; omega⟩, z3', by show r' ≤ 4; omega, lz'⟩
      · refine ⟨_, rfl, by show 0 ≤ sizeLine; decide, fun e he => ?_⟩
        have se := sameNew (o := .lst []) he
        have wl : WrL (upd H4 e (.lst [])) L W := ⟨vs, se _ _ hv4, av4.mono fun v x r => r.mono (TupS.of se)⟩
        have lw : LowW W := fun p hp => (dW p hp).2.2.2
        have hE : upd H4 e (.lst []) e = some (.lst []) := upd_same
        have G5 := G4.same se
        generalize upd H4 e (.lst []) = H5 at se wl hE G5 ⊢
        refine ⟨_, .list [], wl.dp, .lst (.inl (.inl hE)) .nil, shaped_W lw, by decide, ?_⟩
        cases hW : W with
        | nil =>
          subst hW
          exact ⟨false, by rfl, iteF (hU _ _ ⟨z, rfl, z1, z3, lz, .of se, G5.le (by omega)⟩)⟩
        | cons p0 W0 =>
          refine ⟨true, by simp [PyData.eqv, PyData.eqvAll], iteT ?_⟩
          refine ⟨_, rfl, g, 3, n + 20 * (4 - (i + 1)) + 9, rfl, G5, by decide, by decide, fun r H6 s6 G6 r0 r1 => ⟨rfl, _, rfl, ?_⟩⟩
          by_cases c : r = 0
          · rw [decide_eq_true (congrArg V.int c)]
            obtain ⟨vs5, hv5, av5⟩ := wl
            have l5 : vs5.length = W0.length + 1 := by rw [av5.len, hW]; rfl
            obtain ⟨vl, hvl⟩ : ∃ vl, vs5[vs5.length - 1]? = some vl := ⟨_, List.getElem?_eq_getElem (by omega)⟩
            obtain ⟨p, hp, t, rfl, ht⟩ := av5.get hvl
            obtain ⟨⟨o1, _⟩, o3, _, o4⟩ := dW p (List.mem_of_getElem? hp)
            refine iteT ⟨_, rfl, 1, rfl, L, vs5, -1, .ref t, rfl, rfl, .inl (.inl (s6 _ _ Lg hv5)), last_at hvl, t, _, 0, .str (S p.1), rfl, rfl, .inl (.inl (s6.tup G5 ht)), rfl, hU _ _ ⟨p.1, rfl, List.length_pos_iff.mpr o1, o3, o4, (SameX.of se).trans s6, G6.le (by omega)⟩⟩
          · rw [decide_eq_false (fun x => c (V.int.inj x))]
            exact iteF (hU _ _ ⟨z, rfl, z1, z3, lz, (SameX.of se).trans s6, G6.le (by omega)⟩)
    · obtain ⟨sx, _, G3, y4, y5, W, rfl, wl, lW, dW⟩ := p
      exact ⟨_, rfl, q L W HH sx (G3.le (by omega)) Lg wl ⟨by rw [lW, Int.toNat_natCast]; omega, dW⟩⟩
end
end K61

set_option Elab.async false
set_option linter.all false
set_option maxRecDepth 100000
set_option maxHeartbeats 4000000
namespace K61
open PySem PySem.Spec PyProof.Rows L2 CK SX NM PySem.W
open LP (Pc leL leR leStep c1 StepOk opts Best cost Okp spell IsW)
def lenW (W : List Pc) : Nat := (W.map fun p => p.1.length).sum
def powW (W : List Pc) : List Pc := W.filter fun p => decide (1 < p.2)
theorem cost_eq (a s : Nat) : ∀ W : List Pc, (∀ p ∈ W, 1 ≤ p.2) → cost a s W = lenW W * a + (powW W).length * s
  | [], _ => by simp [cost, lenW, powW]
  | p :: r, h => by
    have ih := cost_eq a s r fun q hq => h q (List.mem_cons_of_mem _ hq)
    have h1 := h p List.mem_cons_self
    rw [cost, ih]
    unfold lenW powW c1
    rw [List.map_cons, List.sum_cons, List.filter_cons, Nat.add_mul]
    by_cases c : p.2 = 1
    · rw [if_pos c, if_neg (by rw [c]; decide)]
      omega
    · rw [if_neg c, if_pos (decide_eq_true (by omega)), List.length_cons, Nat.add_mul]
      omega
theorem len_spell {W : List Pc} (h : ∀ p ∈ W, Okp p) : lenW W ≤ (spell W).length ∧ W.length ≤ (spell W).length := by
  induction W with
  | nil => exact ⟨Nat.le_refl _, Nat.le_refl _⟩
  | cons p r ih =>
    obtain ⟨i1, i2⟩ := ih fun q hq => h q (List.mem_cons_of_mem _ hq)
    obtain ⟨o1, o2⟩ := h p List.mem_cons_self
    have l0 := List.length_pos_iff.mpr o1
    unfold lenW at i1 ⊢
    rw [spell, List.length_append, LP.pw_lenP, List.map_cons, List.sum_cons, List.length_cons]
    have := Nat.le_mul_of_pos_right p.1.length (show 0 < p.2 by omega)
    omega
theorem in_spell {W : List Pc} {p : Pc} (h : ∀ p ∈ W, Okp p) (hp : p ∈ W) : p.1.length ≤ (spell W).length ∧ p.2 ≤ (spell W).length := by
  induction W with
  | nil => cases hp
  | cons q r ih =>
    rw [spell, List.length_append, LP.pw_lenP]
    rcases List.mem_cons.mp hp with rfl | hp
    · obtain ⟨o1, o2⟩ := h p List.mem_cons_self
      have l0 := List.length_pos_iff.mpr o1
      have := Nat.le_mul_of_pos_right p.1.length (show 0 < p.2 by omega)
      have := Nat.le_mul_of_pos_left p.2 l0
      omega
    · have := ih (fun q hq => h q (List.mem_cons_of_mem _ hq)) hp
      omega
theorem sum_lens : ∀ W : List Pc, (W.map fun p => ((p.1.length : Nat) : Int)).sum = ((lenW W : Nat) : Int)
  | [] => rfl
  | p :: r => by
    have ih := sum_lens r
    unfold lenW at ih ⊢
    rw [List.map_cons, List.sum_cons, ih, List.map_cons, List.sum_cons]
    push_cast
    rfl
section
variable {P : Program} {w : World} {K : PySem.W.Frag} {mg : Str → Option Value} {base : Heap} {C : Addr}
def Wb (W : List Pc) : Prop := (∀ p ∈ W, Okp p) ∧ (spell W).length ≤ 300
def sp_spelled : Sp := fun vs H Q _ => ∃ (l : Addr) (W : List Pc), vs = [.ref l] ∧ WrL H l W ∧ Wb W ∧ ∀ H', Same H H' → Q (.str (S (spell W))) H'
theorem c_law_spelled (T : Txt K mg C) : C8.Cal P w K mg base 1 "_law_spelled" sp_spelled [] := by
  refine calF T.d_law_spelled sc_law_spelled (fun vs H Q E h => ?_) (fun f0 cdv A outer s0 H vs Q E hr h => ?_)
  · obtain ⟨_, _, rfl, _⟩ := h; rfl
  · obtain ⟨l, W, rfl, ⟨us, hl, av⟩, ⟨ok, lw⟩, q⟩ := h
    have lu := av.len
    obtain ⟨b1, b2⟩ := len_spell ok
    refine ⟨_, (pss_one (ps_ret (pe_join pe_str (pe_lc (own := [("_law_part", 1), ("_law_times", 2)]) (by rfl) sc_law_spelled.nd (pi_list (pv 0)) (blkOk_by (N := ["_law_writer", "_law_part", "_law_times"]) (sc := C8.fnScope (topS 49)) (own := [("_law_part", 1), ("_law_times", 2)]) (by decide +kernel)) (fun _ _ _ _ _ => (pg_two (K := K) (i := 1) (j := 2) rfl rfl sc_law_spelled.nd rfl rfl (Or.inl rfl) (Or.inl rfl))) (fun _ _ _ _ _ => pts_nil) (fun _ _ _ _ _ => (pe_op op_repS (pv 1) (pv 2))))))), ?_⟩
    refine ⟨⟨_, rfl⟩, _, rfl, l, rfl, ⟨_, .inl (.inl hl)⟩, fun D hD => ?_⟩
    refine lc_list (K := K) (a := l) (xs := us) (fun i H2 => Same H H2 ∧ H2 D = some (.lst ((W.take i).map fun p => V.str (S (WM.pw p.1 p.2))))) ⟨sameNew hD, upd_same⟩ (fun i H2 _ p => .inl (.inl (p.1 _ _ hl))) (fun i y H2 hi p => ?_) fun H2 p => ?_
    · obtain ⟨s2, hvs⟩ := p
      obtain ⟨p, hp, t, rfl, ht⟩ := av.get hi
      obtain ⟨m1, m2⟩ := in_spell ok (List.mem_of_getElem? hp)
      have ht2 := s2 _ _ ht
      have l1 : (WM.pw p.1 p.2).length ≤ 300 := by
        obtain ⟨o1, o2⟩ := ok p (List.mem_of_getElem? hp)
        have : (WM.pw p.1 p.2).length ≤ (spell W).length := by
          rw [spell_flat]
          obtain ⟨a, b, e⟩ := List.append_of_mem (List.mem_of_getElem? hp)
          rw [e, List.map_append, List.map_cons, List.flatten_append, List.flatten_cons, List.length_append, List.length_append]
          omega
        omega
      refine ⟨t, _, rfl, .inl (.inl ht2), rfl, _, _, rfl, _, _, rfl, rfl, rfl, yes_if ⟨_, rfl, _, rfl, p.1, p.2, rfl, rfl, by omega, by omega, _, hvs, by rw [List.length_map, List.length_take, sizeLine_eq]; omega, same_upd2 hD s2, ?_⟩⟩
      rw [upd_same, List.take_succ, hp, List.map_append]
      rfl
    · obtain ⟨s2, hvs⟩ := p
      rw [lu, List.take_length] at hvs
      refine ⟨_, D, (W.map fun p => WM.pw p.1 p.2).map S, rfl, rfl, .inl (.inl (.inl (by rw [hvs, List.map_map, List.map_map]; rfl))), ?_, ?_⟩
      · rw [len_flatS, len_empty, ← spell_flat, Nat.mul_zero]
        omega
      · rw [join_flat, ← spell_flat]
        exact q H2 s2
def sp_pair : Sp := fun vs H Q _ => ∃ (l : Addr) (W : List Pc), vs = [.ref l] ∧ WrL H l W ∧ Wb W ∧ ∀ t H', Same H H' → H' t = some (.tup [.int (lenW W : Nat), .int ((powW W).length : Nat)]) → Q (.ref t) H'
theorem c_law_pair (T : Txt K mg C) : C8.Cal P w K mg base 1 "_law_pair" sp_pair [] := by
  refine calF T.d_law_pair sc_law_pair (fun vs H Q E h => ?_) (fun f0 cdv A outer s0 H vs Q E hr h => ?_)
  · obtain ⟨_, _, rfl, _⟩ := h; rfl
  · obtain ⟨l, W, rfl, ⟨us, hl, av⟩, ⟨ok, lw⟩, q⟩ := h
    have lu := av.len
    obtain ⟨b1, b2⟩ := len_spell ok
    refine ⟨_, (pss_one (ps_ret (pe_tup (pa_cons (pe_callB (cr_sum rfl) (by rfl) T.m_sum (by decide +kernel) (pa_cons (pe_lc (own := [("_law_part", 1), ("_law_times", 2)]) (by rfl) sc_law_pair.nd (pi_list (pv 0)) (blkOk_by (N := ["_law_writer", "_law_part", "_law_times"]) (sc := C8.fnScope (topS 50)) (own := [("_law_part", 1), ("_law_times", 2)]) (by decide +kernel)) (fun _ _ _ _ _ => (pg_two (K := K) (i := 1) (j := 2) rfl rfl sc_law_pair.nd rfl rfl (Or.inl rfl) (Or.inl rfl))) (fun _ _ _ _ _ => pts_nil) (fun _ _ _ _ _ => (pe_callB call_len_str (by rfl) T.m_len (by decide +kernel) (pa_cons (pv 1) pa_nil)))) pa_nil)) (pa_cons (pe_callB call_len_seq (by rfl) T.m_len (by decide +kernel) (pa_cons (pe_lc (own := [("_law_part", 1), ("_law_times", 2)]) (by rfl) sc_law_pair.nd (pi_list (pv 0)) (blkOk_by (N := ["_law_writer", "_law_part", "_law_times"]) (sc := C8.fnScope (topS 50)) (own := [("_law_part", 1), ("_law_times", 2)]) (by decide +kernel)) (fun _ _ _ _ _ => (pg_two (K := K) (i := 1) (j := 2) rfl rfl sc_law_pair.nd rfl rfl (Or.inl rfl) (Or.inl rfl))) (fun _ _ _ _ _ => (pts_one (pt_cmpR op_gt (pv 2) pe_int (nomark _)))) (fun _ _ _ _ _ => (pv 2))) pa_nil)) pa_nil))))), ?_⟩
    refine ⟨_, rfl, l, rfl, ⟨_, .inl (.inl hl)⟩, fun D hD => ?_⟩
    refine lc_list (K := K) (a := l) (xs := us) (fun i H2 => Same H H2 ∧ H2 D = some (.lst ((W.take i).map fun p => V.int (p.1.length : Nat)))) ⟨sameNew hD, upd_same⟩ (fun i H2 _ p => .inl (.inl (p.1 _ _ hl))) (fun i y H2 hi p => ?_) fun H2 p => ?_
    · obtain ⟨s2, hvs⟩ := p
      obtain ⟨p, hp, t, rfl, ht⟩ := av.get hi
      obtain ⟨m1, m2⟩ := in_spell ok (List.mem_of_getElem? hp)
      have ht2 := s2 _ _ ht
      refine ⟨t, _, rfl, .inl (.inl ht2), rfl, _, _, rfl, _, _, rfl, rfl, rfl, yes_if ⟨_, rfl, S p.1, rfl, len_line (by omega), _, hvs, by rw [List.length_map, List.length_take, sizeLine_eq]; omega, same_upd2 hD s2, ?_⟩⟩
      rw [upd_same, List.take_succ, hp, List.map_append, S_len]
      rfl
    · obtain ⟨s2, hvs⟩ := p
      rw [lu, List.take_length] at hvs
      refine ⟨D, (W.map fun p => ((p.1.length : Nat) : Int)), rfl, .inl (.inl (by rw [hvs, List.map_map]; rfl)), ?_⟩
      have es : (W.map fun p => ((p.1.length : Nat) : Int)).sum = ((lenW W : Nat) : Int) := by
        exact sum_lens W
      rw [es]
      have hl2 := s2 _ _ hl
      refine ⟨_, rfl, l, rfl, ⟨_, .inl (.inl hl2)⟩, fun D2 hD2 => ?_⟩
      refine lc_list (K := K) (a := l) (xs := us) (fun i H3 => Same H2 H3 ∧ H3 D2 = some (.lst ((powW (W.take i)).map fun p => V.int (p.2 : Nat)))) ⟨sameNew hD2, upd_same⟩ (fun i H3 _ p => .inl (.inl (p.1 _ _ hl2))) (fun i y H3 hi p => ?_) fun H3 p => ?_
      · obtain ⟨s3, hvs3⟩ := p
        obtain ⟨p, hp, t, rfl, ht⟩ := av.get hi
        have ht3 := s3 _ _ (s2 _ _ ht)
        refine ⟨t, _, rfl, .inl (.inl ht3), rfl, _, _, rfl, _, _, rfl, rfl, rfl, ?_⟩
        refine ⟨_, rfl, _, _, rfl, rfl, _, rfl, ?_⟩
        have lf : (powW (W.take i)).length ≤ W.length := Nat.le_trans (List.length_filter_le _ _) (by rw [List.length_take]; omega)
        have et : powW (W.take (i + 1)) = powW (W.take i) ++ if 1 < p.2 then [p] else [] := by
          unfold powW
          rw [List.take_succ, hp, List.filter_append]
          congr 1
          show List.filter _ [p] = _
          rw [List.filter_cons, List.filter_nil]
          by_cases c : 1 < p.2
          · rw [if_pos (decide_eq_true c), if_pos c]
          · rw [if_neg (by simpa using c), if_neg c]
        rw [et]
        by_cases c : 1 < p.2
        · rw [decide_eq_true (show ((p.2 : Nat) : Int) > 1 by omega), if_pos c]
          refine iteT ⟨_, rfl, _, hvs3, by rw [List.length_map, sizeLine_eq]; omega, same_upd2 hD2 s3, ?_⟩
          rw [upd_same, List.map_append]
          rfl
        · rw [decide_eq_false (show ¬((p.2 : Nat) : Int) > 1 by omega), if_neg c, List.append_nil]
          exact iteF ⟨s3, hvs3⟩
      · obtain ⟨s3, hvs3⟩ := p
        rw [lu, List.take_length] at hvs3
        refine ⟨D2, _, rfl, .inl (.inl (.inl hvs3)), by show 2 ≤ sizeLine; decide, fun t nt => ?_⟩
        rw [List.length_map]
        exact q t _ ((s2.trans s3).trans (sameNew nt)) upd_same
def FourL (H : Hp) (F : Addr) (a b c d : Nat) : Prop := H F = some (.lst [.int (a : Nat), .int (b : Nat), .int (c : Nat), .int (d : Nat)]) ∧ 1 ≤ a ∧ a < 2 ^ 100 ∧ b < 2 ^ 100 ∧ c < 2 ^ 100 ∧ d < 2 ^ 100
theorem FourL.same {H H' : Hp} {F : Addr} {a b c d : Nat} (h : FourL H F a b c d) (s : Same H H') : FourL H' F a b c d := ⟨s _ _ h.1, h.2⟩
def sp_pcost : Sp := fun vs H Q _ => ∃ (F l : Addr) (W : List Pc) (a b c d : Nat), vs = [.ref F, .ref l] ∧ FourL H F a b c d ∧ WrL H l W ∧ Wb W ∧ ∀ H', Same H H' → Q (.int (cost a (b + d) W : Nat)) H'
theorem c_law_plain_cost (T : Txt K mg C) : C8.Cal P w K mg base 2 "_law_plain_cost" sp_pcost [] := by
  refine calF T.d_law_plain_cost sc_law_plain_cost (fun vs H Q E h => ?_) (fun f0 cdv A outer s0 H vs Q E hr h => ?_)
  · obtain ⟨_, _, _, _, _, _, _, rfl, _⟩ := h; rfl
  · obtain ⟨F, l, W, a, b, c, d, rfl, ⟨hF, a1, ab, bb, cb, db⟩, wl, wb, q⟩ := h
    obtain ⟨b1, b2⟩ := len_spell wb.1
    have lp : (powW W).length ≤ W.length := List.length_filter_le _ _
    have l3 := wb.2
    refine ⟨_, (pss_cons (ps_asg (C8.pe_c (c_law_pair T) hr (by decide) (by rfl) (pa_cons (pv 1) pa_nil)) (pg_two (K := K) (i := 2) (j := 3) rfl rfl sc_law_plain_cost.nd rfl rfl (Or.inl rfl) (Or.inl rfl)))
    (pss_one (ps_ret (pe_op op_add (pe_op op_mulW (pv 2) (pe_ix ix_list (pv 0) pe_int (fun _ _ => rfl))) (pe_op op_mulW (pv 3) (pe_op op_add (pe_ix ix_list (pv 0) pe_int (fun _ _ => rfl)) (pe_ix ix_list (pv 0) pe_int (fun _ _ => rfl)))))))), ?_⟩
    refine ⟨_, rfl, l, W, rfl, wl, wb, fun t H1 s1 ht => ?_⟩
    refine ⟨t, _, rfl, .inl (.inl ht), rfl, _, _, rfl, _, _, rfl, rfl, ?_⟩
    have hF1 := s1 _ _ hF
    refine ⟨_, rfl, _, rfl, F, _, 0, .int (a : Nat), rfl, rfl, .inl (.inl hF1), rfl, _, _, rfl, rfl, wide_mul (a := 10) (b := 100) (by rw [Int.natAbs_natCast]; exact Nat.lt_of_le_of_lt (show lenW W ≤ 300 by omega) (by decide)) (by rw [Int.natAbs_natCast]; exact ab) (by decide) (by decide) (by decide), ?_⟩
    refine ⟨_, rfl, _, rfl, F, _, 1, .int (b : Nat), rfl, rfl, .inl (.inl hF1), rfl, _, rfl, F, _, 3, .int (d : Nat), rfl, rfl, .inl (.inl hF1), rfl, _, _, rfl, rfl, _, _, rfl, rfl, ?_, _, _, rfl, rfl, ?_⟩
    · refine wide_mul (a := 10) (b := 101) (by rw [Int.natAbs_natCast]; exact Nat.lt_of_le_of_lt (show (powW W).length ≤ 300 by omega) (by decide)) ?_ (by decide) (by decide) (by decide)
      rw [← Int.natCast_add, Int.natAbs_natCast]
      exact Nat.lt_of_lt_of_le (Nat.add_lt_add bb db) (by decide)
    · have e : ((lenW W : Nat) : Int) * (a : Int) + (((powW W).length : Nat) : Int) * ((b : Int) + (d : Int)) = ((cost a (b + d) W : Nat) : Int) := by
        rw [cost_eq a (b + d) W fun p hp => (wb.1 p hp).2]
        push_cast
        rfl
      dsimp only
      rw [e]
      exact q H1 s1
/-- as it is ranked -/
def RnkV (H : Hp) (v : V) (a s : Nat) (l : Addr) (W : List Pc) : Prop := ∃ t, v = .ref t ∧ H t = some (.tup [.int (cost a s W : Nat), .int (W.length : Nat), .ref l]) ∧ WrL H l W
def sp_rank : Sp := fun vs H Q _ => ∃ (F l : Addr) (W : List Pc) (a b c d : Nat), vs = [.ref F, .ref l] ∧ FourL H F a b c d ∧ WrL H l W ∧ Wb W ∧ ∀ v H', Same H H' → RnkV H' v a (b + d) l W → Q v H'
theorem c_law_rank (T : Txt K mg C) : C8.Cal P w K mg base 3 "_law_rank" sp_rank [] := by
  refine calF T.d_law_rank sc_law_rank (fun vs H Q E h => ?_) (fun f0 cdv A outer s0 H vs Q E hr h => ?_)
  · obtain ⟨_, _, _, _, _, _, _, rfl, _⟩ := h; rfl
  · obtain ⟨F, l, W, a, b, c, d, rfl, fl, wl, wb, q⟩ := h
    refine ⟨_, (pss_one (ps_ret (pe_tup (pa_cons (C8.pe_c (c_law_plain_cost T) hr (by decide) (by rfl) (pa_cons (pv 0) (pa_cons (pv 1) pa_nil))) (pa_cons (pe_callB call_len_seq (by rfl) T.m_len (by decide +kernel) (pa_cons (pv 1) pa_nil)) (pa_cons (pv 1) pa_nil)))))), ?_⟩
    refine ⟨_, rfl, _, rfl, F, l, W, a, b, c, d, rfl, fl, wl, wb, fun H1 s1 => ?_⟩
    have wl1 := wl.same s1
    obtain ⟨vs1, hv1, av1⟩ := id wl1
    refine ⟨_, rfl, l, _, rfl, .inl (.inl (.inl hv1)), _, rfl, by show 3 ≤ sizeLine; decide, fun t nt => ?_⟩
    rw [av1.len]
    exact q (.ref t) _ (s1.trans (sameNew nt)) ⟨t, rfl, upd_same, wl1.same (sameNew nt)⟩
end
end K61

set_option Elab.async false
set_option linter.all false
set_option maxRecDepth 100000
set_option maxHeartbeats 4000000
namespace K61
open PySem PySem.Spec PyProof.Rows L2 CK SX NM PySem.W
open LP (Pc leL leR leStep c1 StepOk opts Best cost Okp spell IsW)
theorem pw_succ (x : List Nat) (t : Nat) : WM.pw x (t + 1) = x ++ WM.pw x t := by
  unfold WM.pw
  rw [List.replicate_succ, List.flatten_cons]
theorem isW_cons {z : List Nat} {s t : Nat} (s1 : 1 ≤ s) (t1 : 1 ≤ t) (h : s * t ≤ z.length) {p : Pc} {V : List Pc} : (IsW z (p :: V) ∧ p.1.length = s ∧ p.2 = t) ↔ p = (z.take s, t) ∧ z.take (s * t) = WM.pw (z.take s) t ∧ IsW (z.drop (s * t)) V := by
  have sz : s ≤ z.length := Nat.le_trans (Nat.le_mul_of_pos_right s t1) h
  constructor
  · rintro ⟨⟨h1, h2⟩, h3, h4⟩
    rw [spell] at h1
    have lp : (WM.pw p.1 p.2).length = s * t := by rw [LP.pw_lenP, h3, h4]
    have e1 : z.take (s * t) = WM.pw p.1 p.2 := by rw [← h1, ← lp, List.take_left]
    have e2 : z.drop (s * t) = spell V := by rw [← h1, ← lp, List.drop_left]
    have e3 : z.take s = p.1 := by
      obtain ⟨k, hk⟩ : ∃ k, t = k + 1 := ⟨t - 1, by omega⟩
      rw [← h1, h4, hk, pw_succ, List.append_assoc, ← h3, List.take_left]
    refine ⟨Prod.ext e3.symm h4, ?_, e2.symm, fun q hq => h2 q (List.mem_cons_of_mem _ hq)⟩
    rw [e1, e3, h4]
  · rintro ⟨rfl, h1, h2, h3⟩
    have l1 : (z.take s).length = s := by rw [List.length_take]; omega
    refine ⟨⟨?_, fun q hq => ?_⟩, l1, rfl⟩
    · rw [spell, h2]
      show WM.pw (z.take s) t ++ _ = _
      rw [← h1, List.take_append_drop]
    · rcases List.mem_cons.mp hq with rfl | hq
      · refine ⟨fun e => ?_, t1⟩
        have e : z.take s = [] := e
        rw [e] at l1
        simp at l1
        omega
      · exact h3 q hq
/-- a list of writers -/
def WrsL (H : Hp) (L : Addr) (Ws : List (List Pc)) : Prop := ∃ ls, H L = some (.lst ls) ∧ All2 (fun v W => ∃ l, v = .ref l ∧ WrL H l W) ls Ws
theorem WrsL.same {H H' : Hp} {L : Addr} {Ws : List (List Pc)} (h : WrsL H L Ws) (s : Same H H') : WrsL H' L Ws := by
  obtain ⟨ls, e, a⟩ := h
  exact ⟨ls, s _ _ e, a.mono fun v W ⟨l, e, g⟩ => ⟨l, e, g.same s⟩⟩
theorem pow_half {n s t : Nat} (s1 : 1 ≤ s) (h : s * (t + 1) ≤ n) : 4 * 4 ^ (n - s * (t + 1)) ≤ 4 ^ (n - s * t) := by
  rw [Nat.mul_succ] at h ⊢
  have e : n - s * t = (n - (s * t + s)) + 1 + (s - 1) := by omega
  rw [e, Nat.pow_add, Nat.pow_succ, Nat.mul_comm (4 ^ _) 4]
  exact Nat.le_mul_of_pos_right _ (Nat.pow_pos (by decide))
section
variable {P : Program} {w : World} {K : PySem.W.Frag} {mg : Str → Option Value} {base : Heap} {C : Addr}
def sp_all (n : Nat) : Sp := fun vs H Q _ => ∃ (z : List Nat), vs = [.str (S z)] ∧ z.length < n ∧ z.length ≤ 7 ∧ Low z ∧ ∀ L Ws H', Same H H' → WrsL H' L Ws → (∀ W, W ∈ Ws ↔ IsW z W) → Ws.length ≤ 4 ^ z.length → Q (.ref L) H'
/-- what was found up to size s, times t -/
def Fnd (z : List Nat) (s t : Nat) (W : List Pc) : Prop := (z = [] ∧ W = []) ∨ ∃ p V, W = p :: V ∧ IsW z W ∧ (p.1.length < s ∨ (p.1.length = s ∧ p.2 ≤ t))
theorem all_writers (T : Txt K mg C) : ∀ n : Nat, C8.Cal P w K mg base (2 * n + 2) "_law_all_writers" (sp_all n) []
  | 0 => calF T.d_law_all_writers sc_law_all_writers (fun vs H Q E h => by obtain ⟨_, rfl, _⟩ := h; rfl) (fun f cdv A outer s H vs Q E hr h => by obtain ⟨z, _, hz, _⟩ := h; omega)
  | n + 1 => by
    have ih := all_writers T n
    refine calF T.d_law_all_writers sc_law_all_writers (fun vs H Q E h => ?_) (fun f cdv A outer s H vs Q E hr h => ?_)
    · obtain ⟨_, rfl, _⟩ := h; rfl
    · obtain ⟨z, rfl, zn, z7, low, q⟩ := h
      refine ⟨_, (pss_cons (ps_set (i := 1) sc_law_all_writers.nd rfl (Or.inl rfl) (pe_ifExp (pt_cmpR op_eq (pv 0) pe_str (nomark _)) (pe_lst (pa_cons (pe_lst pa_nil) pa_nil)) (pe_lst pa_nil)))
    (pss_cons (ps_for PassesOwn.never rfl (pi_range2 (by rfl) T.m_range (pa_cons pe_int (pa_cons (pe_op op_add (pe_callB call_len_str (by rfl) T.m_len (by decide +kernel) (pa_cons (pv 0) pa_nil)) pe_int) pa_nil))) (pg_name (i := 2) sc_law_all_writers.nd rfl (Or.inr rfl))
    (pss_one (ps_for PassesOwn.never rfl (pi_range2 (by rfl) T.m_range (pa_cons pe_int (pa_cons (pe_op op_add (pe_op op_fdivW (pe_callB call_len_str (by rfl) T.m_len (by decide +kernel) (pa_cons (pv 0) pa_nil)) (pv 2)) pe_int) pa_nil))) (pg_name (i := 3) sc_law_all_writers.nd rfl (Or.inr rfl))
    (pss_one (ps_if (pt_cmpR op_eq (pe_slice C8.sl_txt (pv 0) po_none (po_some (pe_op op_mulW (pv 2) (pv 3)))) (pe_op op_repS (pe_slice C8.sl_txt (pv 0) po_none (po_some (pv 2))) (pv 3)) (nomark _))
    (pss_one (ps_set (i := 1) sc_law_all_writers.nd rfl (Or.inl rfl) (pe_op op_cat (pv 1) (pe_lc (own := [("_law_rest", 4)]) (by rfl) sc_law_all_writers.nd (pi_list (C8.pe_c ih hr (by omega) (by rfl) (pa_cons (pe_slice C8.sl_txt (pv 0) (po_some (pe_op op_mulW (pv 2) (pv 3))) po_none) pa_nil))) (blkOk_by (N := ["_law_word_here", "_law_found", "_law_size", "_law_times", "_law_rest"]) (sc := C8.fnScope (topS 52)) (own := [("_law_rest", 4)]) (by decide +kernel)) (fun _ _ _ _ _ => (pg_name (i := 4) sc_law_all_writers.nd rfl (Or.inl rfl))) (fun _ _ _ _ _ => pts_nil) (fun _ _ _ _ _ => (pe_op op_cat (pe_lst (pa_cons (pe_tup (pa_cons (pe_slice C8.sl_txt (pv 0) po_none (po_some (pv 2))) (pa_cons (pv 3) pa_nil))) pa_nil)) (pv 4)))))))
    pss_nil)))))
    (pss_one (ps_ret (pv 1))))), ?_⟩
      refine joinS (a := tAsg _ _) (fun σ' HX => ∃ L Ws, σ' = [some (.str (S z)), some (.ref L), none, none, none] ∧ Same H HX ∧ WrsL HX L Ws ∧ (∀ W, W ∈ Ws ↔ Fnd z 1 0 W) ∧ (z = [] → Ws.length ≤ 1) ∧ (z ≠ [] → Ws.length + 4 ^ (z.length - 0) ≤ 4 ^ z.length)) (fun σ' HX p => ?_) fun U hU => ?_
      rotate_left
      · refine ⟨_, rfl, rfl, _, rfl, ?_⟩
        by_cases ze : z = []
        · rw [decide_eq_true (show V.str (S z) = V.str (Str.ofString "") by rw [ze, empty_S])]
          refine iteT ⟨by show 0 ≤ sizeLine; decide, fun l0 nl0 => ⟨by show 1 ≤ sizeLine; decide, fun L nL => ?_⟩⟩
          have sL := sameNew (o := .lst [V.ref l0]) nL
          refine hU _ _ ⟨L, [[]], rfl, (sameNew nl0).trans sL, ⟨[.ref l0], upd_same, .cons ⟨l0, rfl, [], sL _ _ upd_same, .nil⟩ .nil⟩, fun W => ?_, fun _ => Nat.le_refl _, fun h => absurd ze h⟩
          rw [List.mem_singleton]
          constructor
          · exact fun e => .inl ⟨ze, e⟩
          · rintro (⟨_, e⟩ | ⟨p, V, rfl, ⟨h1, h2⟩, h3⟩)
            · exact e
            · exfalso
              have := LP.okp_pos (h2 p List.mem_cons_self)
              rw [ze, spell] at h1
              have := congrArg List.length h1
              rw [List.length_append, LP.pw_lenP] at this
              simp at this
              omega
        · rw [decide_eq_false (show ¬V.str (S z) = V.str (Str.ofString "") from fun e => ze (by rw [empty_S] at e; exact S_inj (V.str.inj e)))]
          refine iteF ⟨by show 0 ≤ sizeLine; decide, fun L nL => ?_⟩
          refine hU _ _ ⟨L, [], rfl, sameNew nL, ⟨[], upd_same, .nil⟩, fun W => ?_, fun h => absurd h ze, fun _ => by simp⟩
          constructor
          · exact fun e => nomatch e
          · rintro (⟨e, _⟩ | ⟨p, V, rfl, ⟨h1, h2⟩, h3⟩)
            · exact absurd e ze
            · exfalso
              obtain ⟨o1, o2⟩ := h2 p List.mem_cons_self
              have := List.length_pos_iff.mpr o1
              rcases h3 with h3 | ⟨h3, h4⟩ <;> omega
      · obtain ⟨L, Ws, rfl, sX, wx, mx, c1', c2'⟩ := p
        obtain ⟨N, hN⟩ : ∃ N, N = z.length := ⟨_, rfl⟩
        rw [← hN] at c2'
        refine ⟨_, rfl, S z, rfl, len_line (by omega), _, 1, rfl, rfl, 1, ((N + 1 : Nat) : Int), by rw [S_len, ← hN]; rfl, ⟨by omega, by omega, by omega, by omega⟩, ?_⟩
        refine for_it walk_range (fun i σ HH => Same H HH ∧ i ≤ N ∧ ∃ (y2 y3 y4 : Option V) (L : Addr) (Ws : List (List Pc)), σ = [some (.str (S z)), some (.ref L), y2, y3, y4] ∧ WrsL HH L Ws ∧ (∀ W, W ∈ Ws ↔ Fnd z (i + 1) 0 W) ∧ (z = [] → Ws.length ≤ 1) ∧ (z ≠ [] → Ws.length + 4 ^ (N - i) ≤ 4 ^ N)) ⟨sX, Nat.zero_le _, none, none, none, L, Ws, rfl, wx, mx, c1', c2'⟩ (fun _ _ _ _ _ => True.intro) (fun i x σ HH HH' hi p yy => ?_) fun σ HH p => ?_
        · obtain ⟨sH, _, y2, y3, y4, L, Ws, rfl, wl, mW, _, cW⟩ := p
          obtain ⟨rfl, rfl⟩ := yy
          have iN : i < N := by
            have : i < (((N + 1 : Nat) : Int) - 1).toNat := hi
            omega
          have zne : z ≠ [] := fun e => by rw [e] at hN; simp at hN; omega
          have cW := cW zne
          rw [gname_eq]
          dsimp only
          rw [show (1 : Int) + (i : Nat) = ((i + 1 : Nat) : Int) by omega]
          obtain ⟨s, hs⟩ : ∃ s, s = i + 1 := ⟨_, rfl⟩
          rw [← hs] at mW ⊢
          have s1 : 1 ≤ s := by omega
          have sN : s ≤ N := by omega
          obtain ⟨m, hm⟩ : ∃ m, m = N / s := ⟨_, rfl⟩
          have m1 : 1 ≤ m := by rw [hm]; exact Nat.div_pos sN s1
          have sm : s * m ≤ N := by rw [hm]; exact Nat.mul_div_le _ _
          have mN : m ≤ N := by rw [hm]; exact Nat.div_le_self _ _
          have ex4 : 4 ^ (N - i) = 4 * 4 ^ (N - s) := by
            rw [show N - i = (N - s) + 1 by omega, Nat.pow_succ, Nat.mul_comm]
          rw [ex4] at cW
          refine ⟨_, rfl, S z, rfl, len_line (by omega), _, rfl, _, _, rfl, rfl, wide_div (b := 100) (by omega) (by rw [Int.natAbs_natCast]; exact Nat.lt_of_le_of_lt (show s ≤ 7 by omega) (by decide)) (by decide) (by decide), _, 1, rfl, rfl, 1, ((m + 1 : Nat) : Int), ?_, ⟨by omega, by omega, by omega, by omega⟩, ?_⟩
          · rw [S_len, ← hN, hm]
            rfl
          refine for_it walk_range (fun j σ HB => Same H HB ∧ j ≤ m ∧ ∃ (y3 y4 : Option V) (L : Addr) (Ws : List (List Pc)), σ = [some (.str (S z)), some (.ref L), some (.int (s : Nat)), y3, y4] ∧ WrsL HB L Ws ∧ (∀ W, W ∈ Ws ↔ Fnd z s j W) ∧ (j = 0 → Ws.length + 4 * 4 ^ (N - s) ≤ 4 ^ N) ∧ (1 ≤ j → Ws.length + 4 ^ (N - s * j) + 4 * 4 ^ (N - s) ≤ 4 ^ N + 2 * 4 ^ (N - s))) ⟨sH, Nat.zero_le _, y3, y4, L, Ws, rfl, wl, mW, fun _ => cW, fun h => by omega⟩ (fun _ _ _ _ _ => True.intro) (fun j x σ HB HB' hj p yy => ?_) fun σ HB p => ?_
          · obtain ⟨sB, _, y3, y4, L, Ws, rfl, wl, mW, c0, c1''⟩ := p
            obtain ⟨rfl, rfl⟩ := yy
            have jm : j < m := by
              have : j < (((m + 1 : Nat) : Int) - 1).toNat := hj
              omega
            rw [gname_eq]
            dsimp only
            rw [show (1 : Int) + (j : Nat) = ((j + 1 : Nat) : Int) by omega]
            obtain ⟨t, ht⟩ : ∃ t, t = j + 1 := ⟨_, rfl⟩
            rw [← ht] at ⊢
            have stN : s * t ≤ N := Nat.le_trans (Nat.mul_le_mul_left s (by omega)) sm
            have len4 : ∀ k, k ≤ 4 ^ (N - s * t) → Ws.length + k + 4 ^ (N - s * t) + 4 * 4 ^ (N - s) ≤ 4 ^ N + 2 * 4 ^ (N - s) := fun k hk => by
              by_cases j0 : j = 0
              · have := c0 j0
                rw [show s * t = s by rw [ht, j0]; omega] at hk ⊢
                generalize 4 ^ (N - s) = u1 at hk this ⊢
                generalize 4 ^ N = u2 at this ⊢
                omega
              · have := c1'' (by omega)
                have ph := pow_half (n := N) (s := s) (t := j) s1 (by rw [← ht]; exact stN)
                rw [← ht] at ph
                generalize 4 ^ (N - s) = u1 at this ⊢
                generalize 4 ^ (N - s * t) = u3 at hk ph ⊢
                generalize 4 ^ (N - s * j) = u4 at ph this
                generalize 4 ^ N = u2 at this ⊢
                omega
            have lsz : Ws.length ≤ 4 ^ 7 + 2 * 4 ^ 7 := by
              have := len4 0 (Nat.zero_le _)
              have p1 : 4 ^ N ≤ 4 ^ 7 := Nat.pow_le_pow_right (by decide) (by omega)
              have p2 : 4 ^ (N - s) ≤ 4 ^ 7 := Nat.pow_le_pow_right (by decide) (by omega)
              generalize 4 ^ (N - s) = u1 at this p2
              generalize 4 ^ (N - s * t) = u3 at this
              generalize 4 ^ N = u2 at this p1
              omega
            have fs : ∀ W, Fnd z s t W ↔ Fnd z s j W ∨ ∃ p V, W = p :: V ∧ IsW z W ∧ p.1.length = s ∧ p.2 = t := fun W => by
              constructor
              · rintro (h | ⟨p, V, e, h1, h2⟩)
                · exact .inl (.inl h)
                · by_cases c : p.1.length = s ∧ p.2 = t
                  · exact .inr ⟨p, V, e, h1, c⟩
                  · refine .inl (.inr ⟨p, V, e, h1, ?_⟩)
                    rcases h2 with h2 | ⟨h2, h3⟩
                    · exact .inl h2
                    · exact .inr ⟨h2, by omega⟩
              · rintro ((h | ⟨p, V, e, h1, h2⟩) | ⟨p, V, e, h1, h2, h3⟩)
                · exact .inl h
                · refine .inr ⟨p, V, e, h1, ?_⟩
                  rcases h2 with h2 | ⟨h2, h3⟩
                  · exact .inl h2
                  · exact .inr ⟨h2, by omega⟩
                · exact .inr ⟨p, V, e, h1, .inr ⟨h2, by omega⟩⟩
            have stI : ((s : Nat) : Int) * ((t : Nat) : Int) = ((s * t : Nat) : Int) := rfl
            have wm : CMulW ((s : Nat) : Int) ((t : Nat) : Int) := wide_mul (a := 10) (b := 10) (by rw [Int.natAbs_natCast]; exact Nat.lt_of_le_of_lt (show s ≤ 7 by omega) (by decide)) (by rw [Int.natAbs_natCast]; exact Nat.lt_of_le_of_lt (show t ≤ 7 by omega) (by decide)) (by decide) (by decide) (by decide)
            have tS : Txt.slice (S z) none (some ((s * t : Nat) : Int)) = S (z.take (s * t)) := by rw [SX.slice_to (by omega), Int.toNat_natCast]
            have tS2 : Txt.slice (S z) none (some ((s : Nat) : Int)) = S (z.take s) := by rw [SX.slice_to (by omega), Int.toNat_natCast]
            have tS3 : Txt.slice (S z) (some ((s * t : Nat) : Int)) none = S (z.drop (s * t)) := by rw [SX.slice_from (by omega), Int.toNat_natCast]
            refine ⟨_, rfl, _, rfl, _, rfl, _, _, rfl, rfl, wm, ((s * t : Nat) : Int), congrArg V.int stI, S z, rfl, len_line (by omega), ?_⟩
            rw [tS]
            refine ⟨_, rfl, _, rfl, ((s : Nat) : Int), rfl, S z, rfl, len_line (by omega), _, rfl, z.take s, t, ?_, rfl, by omega, by rw [List.length_take]; omega, rfl, _, rfl, ?_⟩
            · rw [tS2]
            by_cases eq : z.take (s * t) = WM.pw (z.take s) t
            · rw [decide_eq_true (show V.str (S (z.take (s * t))) = V.str (S (List.replicate t (z.take s)).flatten) from congrArg (fun w => V.str (S w)) eq)]
              refine iteT ⟨_, rfl, _, rfl, _, rfl, _, rfl, _, _, rfl, rfl, wm, ((s * t : Nat) : Int), congrArg V.int stI, S z, rfl, len_line (by omega), z.drop (s * t), ?_, by rw [List.length_drop]; have := Nat.mul_pos s1 (show 0 < t by omega); omega, by rw [List.length_drop]; omega, low_drop low _, fun LV Vs H3 s3 wv mV cV => ?_⟩
              · rw [tS3]
                rfl
              obtain ⟨ls, hls, als⟩ := wv
              have lls := als.len
              rw [List.length_drop, ← hN] at cV
              refine ⟨LV, rfl, ⟨_, .inl (.inl hls)⟩, fun D nD => ?_⟩
              refine lc_list (K := K) (a := LV) (xs := ls) (fun k H4 => Same H3 H4 ∧ ∃ ds, H4 D = some (.lst ds) ∧ All2 (fun v W => ∃ l, v = .ref l ∧ l ≠ D ∧ WrL H4 l W) ds ((Vs.take k).map fun V => (z.take s, t) :: V)) ⟨sameNew nD, [], upd_same, .nil⟩ (fun k H4 _ p => .inl (.inl (p.1 _ _ hls))) (fun k y H4 hk p => ?_) fun H4 p => ?_
              · obtain ⟨s4, ds, hds, ads⟩ := p
                obtain ⟨V0, hV0, lr, rfl, wr0⟩ := als.get hk
                obtain ⟨vr, hvr, avr⟩ := wr0.same s4
                have kV : k < Vs.length := (List.getElem?_eq_some_iff.mp hV0).1
                have lV0 : V0.length ≤ 7 := by
                  have isW := (mV V0).mp (List.mem_of_getElem? hV0)
                  have := (len_spell isW.2).2
                  rw [isW.1, List.length_drop] at this
                  omega
                have p7 : 4 ^ (N - s * t) ≤ 4 ^ 7 := Nat.pow_le_pow_right (by decide) (by omega)
                have lds := ads.len
                rw [List.length_map, List.length_take] at lds
                refine ⟨rfl, yes_if ⟨_, rfl, _, rfl, ((s : Nat) : Int), rfl, S z, rfl, len_line (by omega), _, rfl, by show 2 ≤ sizeLine; decide, fun u nu => ⟨by show 1 ≤ sizeLine; decide, fun l1 nl1 => ?_⟩⟩⟩
                rw [tS2]
                have su := sameNew (o := .tup [.str (S (z.take s)), .int (t : Nat)]) nu
                have pu : PrV (upd H4 u (.tup [.str (S (z.take s)), .int (t : Nat)])) (.ref u) (z.take s, t) := ⟨u, rfl, upd_same⟩
                rw [tS2] at nl1
                generalize upd H4 u (.tup [.str (S (z.take s)), .int (t : Nat)]) = H5 at su pu nl1 ⊢
                have sl1 := sameNew (o := .lst [.ref u]) nl1
                have hl1 : upd H5 l1 (.lst [.ref u]) l1 = some (.lst [.ref u]) := upd_same
                have pu6 := pu.mono (TupS.of sl1)
                generalize upd H5 l1 (.lst [.ref u]) = H6 at sl1 hl1 pu6 ⊢
                have s46 := su.trans sl1
                refine ⟨_, rfl, l1, lr, _, _, rfl, rfl, hl1, s46 _ _ hvr, by rw [avr.len, sizeLine_eq]; show 1 + V0.length ≤ _; omega, fun l2 nl2 => ?_⟩
                have sl2 := sameNew (o := .lst ([.ref u] ++ vr)) nl2
                have hl2 : upd H6 l2 (.lst ([.ref u] ++ vr)) l2 = some (.lst ([.ref u] ++ vr)) := upd_same
                have wl2 : All2 (PrV (upd H6 l2 (.lst ([.ref u] ++ vr)))) ([.ref u] ++ vr) ((z.take s, t) :: V0) := .cons (pu6.mono (TupS.of sl2)) (avr.mono fun v x g => g.mono (TupS.of (s46.trans sl2)))
                generalize upd H6 l2 (.lst ([.ref u] ++ vr)) = H7 at sl2 hl2 wl2 ⊢
                have s47 := s46.trans sl2
                have hds7 := s47 _ _ hds
                have l2D : l2 ≠ D := fun x => by rw [x, s46 _ _ hds] at nl2; cases nl2
                have tu : TupS H7 (upd H7 D (.lst (ds ++ [.ref l2]))) := tup_upd hds7
                refine ⟨ds, hds7, by rw [lds, sizeLine_eq]; omega, same_upd2 nD (s4.trans s47), ds ++ [.ref l2], upd_same, ?_⟩
                rw [List.take_succ, hV0, List.map_append]
                refine (ads.mono fun v W ⟨l, e, nl, g⟩ => ?_).app (.cons ⟨l2, rfl, l2D, _, by rw [upd_ne l2D]; exact hl2, wl2.mono fun v x g => g.mono tu⟩ .nil)
                obtain ⟨vs', e1, a1⟩ := g.same s47
                exact ⟨l, e, nl, vs', by rw [upd_ne nl]; exact e1, a1.mono fun v x g => g.mono tu⟩
              · obtain ⟨s4, ds, hds, ads⟩ := p
                rw [lls, List.take_length] at ads
                have s34 := s3.trans s4
                obtain ⟨lw, hlw, alw⟩ := wl.same s34
                have lds := ads.len
                rw [List.length_map] at lds
                have p7 : 4 ^ (N - s * t) ≤ 4 ^ 7 := Nat.pow_le_pow_right (by decide) (by omega)
                refine ⟨L, D, _, _, rfl, rfl, hlw, hds, by rw [alw.len, lds, sizeLine_eq]; omega, fun L2 nL2 => ?_⟩
                have sL2 := sameNew (o := .lst (lw ++ ds)) nL2
                refine ⟨(sB.trans s34).trans sL2, by omega, _, _, L2, Ws ++ Vs.map fun V => (z.take s, t) :: V, rfl, ⟨_, upd_same, (alw.mono fun v W ⟨l, e, g⟩ => ⟨l, e, g.same sL2⟩).app (ads.mono fun v W ⟨l, e, _, g⟩ => ⟨l, e, g.same sL2⟩)⟩, fun W => ?_, fun h => by omega, fun _ => ?_⟩
                · rw [fs, List.mem_append, mW, List.mem_map]
                  refine or_congr Iff.rfl ⟨?_, ?_⟩
                  · rintro ⟨V, hV, rfl⟩
                    have := (isW_cons (p := (z.take s, t)) (V := V) s1 (by omega) (by rw [← hN]; omega)).mpr ⟨rfl, eq, (mV V).mp hV⟩
                    exact ⟨_, V, rfl, this.1, this.2.1, this.2.2⟩
                  · rintro ⟨p, V, rfl, h1, h2, h3⟩
                    obtain ⟨g1, _, g3⟩ := (isW_cons s1 (by omega) (by rw [← hN]; omega)).mp ⟨h1, h2, h3⟩
                    exact ⟨V, (mV V).mpr g3, by rw [g1]⟩
                · rw [List.length_append, List.length_map]
                  exact len4 _ cV
            · rw [decide_eq_false (show ¬V.str (S (z.take (s * t))) = V.str (S (List.replicate t (z.take s)).flatten) from fun e => eq (S_inj (V.str.inj e)))]
              refine iteF ⟨sB, by omega, _, _, L, Ws, rfl, wl, fun W => ?_, fun h => by omega, fun _ => ?_⟩
              · rw [fs, mW]
                refine ⟨.inl, fun h => h.elim id ?_⟩
                rintro ⟨p, V, rfl, h1, h2, h3⟩
                exact absurd ((isW_cons s1 (by omega) (by omega)).mp ⟨h1, h2, h3⟩).2.1 eq
              · exact len4 0 (Nat.zero_le _)
          · obtain ⟨sB, _, y3, y4, L, Ws, rfl, wl, mW, c0, c1''⟩ := p
            rw [show (((m + 1 : Nat) : Int) - 1).toNat = m by omega] at mW c1''
            have := c1'' m1
            refine ⟨sB, by omega, _, _, _, L, Ws, rfl, wl, fun W => ?_, fun h => absurd h zne, fun _ => ?_⟩
            · rw [mW]
              constructor
              · rintro (h | ⟨p, V, e, h1, h2⟩)
                · exact .inl h
                · refine .inr ⟨p, V, e, h1, .inl ?_⟩
                  rcases h2 with h2 | ⟨h2, _⟩ <;> omega
              · rintro (h | ⟨p, V, e, h1, h2⟩)
                · exact .inl h
                · refine .inr ⟨p, V, e, h1, ?_⟩
                  have ok := h1.2 p (by rw [e]; exact List.mem_cons_self)
                  rcases h2 with h2 | ⟨_, h3⟩
                  · by_cases c : p.1.length < s
                    · exact .inl c
                    · refine .inr ⟨by omega, ?_⟩
                      have l1 := congrArg List.length h1.1
                      rw [e, spell, List.length_append, LP.pw_lenP, show p.1.length = s by omega, ← hN] at l1
                      rw [hm]
                      exact (Nat.le_div_iff_mul_le s1).mpr (by rw [Nat.mul_comm]; omega)
                  · have := ok.2
                    omega
            · generalize 4 ^ (N - s) = u1 at this ⊢
              generalize 4 ^ (N - s * m) = u3 at this
              generalize 4 ^ N = u2 at this ⊢
              omega
        · obtain ⟨sH, _, y2, y3, y4, L, Ws, rfl, wl, mW, d1, d2⟩ := p
          rw [show (((N + 1 : Nat) : Int) - 1).toNat = N by omega] at mW d2
          refine ⟨_, rfl, q L Ws HH sH wl (fun W => ?_) ?_⟩
          · rw [mW]
            constructor
            · rintro (⟨e1, e2⟩ | ⟨p, V, rfl, h, _⟩)
              · rw [e1, e2]
                exact ⟨rfl, fun p hp => nomatch hp⟩
              · exact h
            · intro h
              cases W with
              | nil => exact .inl ⟨h.1.symm, rfl⟩
              | cons p V =>
                refine .inr ⟨p, V, rfl, h, .inl ?_⟩
                have := (in_spell h.2 List.mem_cons_self).1
                rw [h.1] at this
                omega
          · by_cases ze : z = []
            · rw [ze]
              exact d1 ze
            · rw [← hN]
              exact Nat.le_trans (Nat.le_add_right _ _) (d2 ze)
end
end K61

set_option Elab.async false
set_option linter.all false
set_option maxRecDepth 100000
set_option maxHeartbeats 4000000
namespace K61
open PySem PySem.Spec PyProof.Rows L2 CK SX NM PySem.W
open LP (Pc leL leR leStep c1 StepOk opts Best cost Okp spell IsW)
section
variable {P : Program} {w : World} {K : PySem.W.Frag} {mg : Str → Option Value} {base : Heap} {C : Addr}
theorem c_law_all_writers (T : Txt K mg C) : C8.Cal P w K mg base 18 "_law_all_writers" (sp_all 8) [] := all_writers T 8
def sp_isw : Sp := fun vs H Q _ => ∃ (z : List Nat) (l : Addr) (W : List Pc), vs = [.str (S z), .ref l] ∧ WrL H l W ∧ IsW z W ∧ z.length ≤ 200 ∧ ∀ H', Same H H' → Q (.bl true) H'
theorem c_law_is_plain_writer (T : Txt K mg C) : C8.Cal P w K mg base 2 "_law_is_plain_writer" sp_isw [] := by
  refine calF T.d_law_is_plain_writer sc_law_is_plain_writer (fun vs H Q E h => ?_) (fun f0 cdv A outer s0 H vs Q E hr h => ?_)
  · obtain ⟨_, _, _, rfl, _⟩ := h; rfl
  · obtain ⟨z, l, W, rfl, wl, ⟨h1, h2⟩, zl, q⟩ := h
    obtain ⟨us, hl, av⟩ := id wl
    have lu := av.len
    obtain ⟨b1, b2⟩ := len_spell h2
    rw [h1] at b1 b2
    refine ⟨_, (pss_cons (ps_if (pt_not (pt_val (pe_callB call_isK (by rfl) T.m_isinstance (by decide +kernel) (pa_cons (pv 1) (pa_cons (pe_bltn (v := .ty "list") (by rfl) T.m_list (by decide +kernel) rfl) pa_nil)))))
    (pss_one (ps_ret pe_bl))
    pss_nil)
    (pss_cons (ps_for PassesOwn.never rfl (pi_list (pv 1)) (pg_name (i := 2) sc_law_is_plain_writer.nd rfl (Or.inl rfl))
    (pss_cons (ps_if (PW.pt (pw_or (pt_not (pt_val (pe_callB call_isK (by rfl) T.m_isinstance (by decide +kernel) (pa_cons (pv 2) (pa_cons (pe_bltn (v := .ty "tuple") (by rfl) T.m_tuple (by decide +kernel) rfl) pa_nil))))) (pw_or (pt_cmpR op_ne (pe_callB call_len_seq (by rfl) T.m_len (by decide +kernel) (pa_cons (pv 2) pa_nil)) pe_int (nomark _)) (pw_or (pt_not (pt_val (pe_callB call_isK (by rfl) T.m_isinstance (by decide +kernel) (pa_cons (pe_ix ix_tup (pv 2) pe_int (fun _ _ => rfl)) (pa_cons (pe_bltn (v := .ty "str") (by rfl) T.m_str (by decide +kernel) rfl) pa_nil))))) (pw_or1 (pt_cmpR op_eq (pe_ix ix_tup (pv 2) pe_int (fun _ _ => rfl)) pe_str (nomark _)))))))
    (pss_one (ps_ret pe_bl))
    pss_nil)
    (pss_one (ps_if (PW.pt (pw_or (pt_not (pt_val (pe_callB call_isK (by rfl) T.m_isinstance (by decide +kernel) (pa_cons (pe_ix ix_tup (pv 2) pe_int (fun _ _ => rfl)) (pa_cons (pe_bltn (v := .ty "int") (by rfl) T.m_int (by decide +kernel) rfl) pa_nil))))) (pw_or (pt_val (pe_callB call_isK (by rfl) T.m_isinstance (by decide +kernel) (pa_cons (pe_ix ix_tup (pv 2) pe_int (fun _ _ => rfl)) (pa_cons (pe_bltn (v := .ty "bool") (by rfl) T.m_bool (by decide +kernel) rfl) pa_nil)))) (pw_or1 (pt_not (pt_chain op_le op_le pe_int (pe_ix ix_tup (pv 2) pe_int (fun _ _ => rfl)) (pe_callB call_len_str (by rfl) T.m_len (by decide +kernel) (pa_cons (pv 0) pa_nil))))))))
    (pss_one (ps_ret pe_bl))
    pss_nil))))
    (pss_one (ps_ret (pe_cmpR op_eq (C8.pe_c (c_law_spelled T) hr (by decide) (by rfl) (pa_cons (pv 1) pa_nil)) (pv 0) (nomark _)))))), ?_⟩
    have kl : Kn H (.ref l) := .lst hl
    refine ⟨_, rfl, .ref l, "list", _, rfl, kl, kit_list kl, _, rfl, ?_⟩
    rw [isLi_lst hl]
    refine iteF ?_
    refine ⟨_, rfl, l, rfl, ⟨_, .inl (.inl hl)⟩, for_list (K := K) (D := { nx := _, rt := Q, bk := fun _ _ => False, ct := fun _ _ => False }) (a := l) (xs := us) (fun i σ HH => HH = H ∧ ∃ y2 : Option V, σ = [some (.str (S z)), some (.ref l), y2]) ⟨rfl, none, rfl⟩ (fun i σ HH _ p => by rw [p.1]; exact .inl (.inl hl)) (fun i v σ HH hi p => ?_) fun σ HH p => ?_⟩
    · obtain ⟨rfl, y2, rfl⟩ := p
      obtain ⟨p, hp, t, rfl, ht⟩ := av.get hi
      have mp := List.mem_of_getElem? hp
      obtain ⟨o1, o2⟩ := h2 p mp
      have i2 := (in_spell h2 mp).2
      rw [h1] at i2
      have kt : Kn HH (.ref t) := .tup ht
      rw [gname_eq]
      refine ⟨_, rfl, .ref t, "tuple", _, rfl, kt, kit_tuple kt, _, rfl, ?_⟩
      rw [isTu_tup ht]
      refine iteF ?_
      refine ⟨_, rfl, t, _, rfl, .inr (.inl (.inl ht)), rfl, false, rfl, iteF ?_⟩
      refine ⟨_, rfl, t, _, 0, .str (S p.1), rfl, rfl, .inl (.inl ht), rfl, .str (S p.1), "str", true, rfl, .str _, by show kitB "str" "str" = some true; decide +kernel, _, rfl, iteF ?_⟩
      refine ⟨_, rfl, t, _, 0, .str (S p.1), rfl, rfl, .inl (.inl ht), rfl, rfl, _, rfl, ?_⟩
      rw [decide_eq_false (show ¬V.str (S p.1) = V.str (Str.ofString "") from fun e => o1 (by rw [empty_S] at e; exact S_inj (V.str.inj e)))]
      refine iteF ?_
      refine ⟨_, rfl, t, _, 1, .int (p.2 : Nat), rfl, rfl, .inl (.inl ht), rfl, .int (p.2 : Nat), "int", true, rfl, .int _, by show kitB "int" "int" = some true; decide +kernel, _, rfl, iteF ?_⟩
      refine ⟨_, rfl, t, _, 1, .int (p.2 : Nat), rfl, rfl, .inl (.inl ht), rfl, .int (p.2 : Nat), "bool", false, rfl, .int _, by show kitB "int" "bool" = some false; decide +kernel, _, rfl, iteF ?_⟩
      refine ⟨_, rfl, t, _, 1, .int (p.2 : Nat), rfl, rfl, .inl (.inl ht), rfl, 1, _, rfl, rfl, _, rfl, ?_⟩
      rw [decide_eq_true (show (1 : Int) ≤ ((p.2 : Nat) : Int) by omega)]
      refine iteT ⟨_, rfl, S z, rfl, len_line (by omega), ?_⟩
      rw [S_len]
      refine ⟨_, _, rfl, rfl, true, congrArg V.bl (decide_eq_true (by omega)), iteF ⟨rfl, _, rfl⟩⟩
    · obtain ⟨rfl, y2, rfl⟩ := p
      refine ⟨_, rfl, l, W, rfl, wl, ⟨h2, by rw [h1]; omega⟩, fun H1 s1 => ⟨_, rfl, rfl, ?_⟩⟩
      rw [h1, decide_eq_true rfl]
      exact q H1 s1
def sp_told : Sp := fun vs H Q _ => ∃ (z : List Nat) (F l : Addr) (v : V) (W : List Pc) (a b c d : Nat), vs = [.str (S z), .ref F, v] ∧ FourL H F a b c d ∧ ToldV H a (b + d) v l W ∧ IsW z W ∧ z.length ≤ 200 ∧ ∀ H', Same H H' → Q (.bl true) H'
theorem c_law_told_right (T : Txt K mg C) : C8.Cal P w K mg base 3 "_law_told_right" sp_told [] := by
  refine calF T.d_law_told_right sc_law_told_right (fun vs H Q E h => ?_) (fun f0 cdv A outer s0 H vs Q E hr h => ?_)
  · obtain ⟨_, _, _, _, _, _, _, _, _, rfl, _⟩ := h; rfl
  · obtain ⟨z, F, l, v, W, a, b, c, d, rfl, fl, tv, iw, zl, q⟩ := h
    obtain ⟨t, us, rfl, ht, hl, av⟩ := id tv
    refine ⟨_, (pss_cons (ps_if (PW.pt (pw_or (pt_not (pt_val (pe_callB call_isK (by rfl) T.m_isinstance (by decide +kernel) (pa_cons (pv 2) (pa_cons (pe_bltn (v := .ty "tuple") (by rfl) T.m_tuple (by decide +kernel) rfl) pa_nil))))) (pw_or (pt_cmpR op_ne (pe_callB call_len_seq (by rfl) T.m_len (by decide +kernel) (pa_cons (pv 2) pa_nil)) pe_int (nomark _)) (pw_or1 (pt_not (pt_val (C8.pe_c (c_law_is_plain_writer T) hr (by decide) (by rfl) (pa_cons (pv 0) (pa_cons (pe_ix ix_tup (pv 2) pe_int (fun _ _ => rfl)) pa_nil)))))))))
    (pss_one (ps_ret pe_bl))
    pss_nil)
    (pss_one (ps_ret (pe_and (pe_cmpR op_eq (pe_ix ix_tup (pv 2) pe_int (fun _ _ => rfl)) (C8.pe_c (c_law_plain_cost T) hr (by decide) (by rfl) (pa_cons (pv 1) (pa_cons (pe_ix ix_tup (pv 2) pe_int (fun _ _ => rfl)) pa_nil))) (nomark _)) (pe_one (pe_not (pe_callB call_isK (by rfl) T.m_isinstance (by decide +kernel) (pa_cons (pe_ix ix_tup (pv 2) pe_int (fun _ _ => rfl)) (pa_cons (pe_bltn (v := .ty "bool") (by rfl) T.m_bool (by decide +kernel) rfl) pa_nil))))))))), ?_⟩
    have kt : Kn H (.ref t) := .tup ht
    refine ⟨_, rfl, .ref t, "tuple", _, rfl, kt, kit_tuple kt, _, rfl, ?_⟩
    rw [isTu_tup ht]
    refine iteF ⟨_, rfl, t, _, rfl, .inr (.inl (.inl ht)), rfl, false, rfl, iteF ?_⟩
    refine ⟨_, rfl, _, rfl, t, _, 1, .ref l, rfl, rfl, .inl (.inl ht), rfl, z, l, W, rfl, ⟨us, hl, av⟩, iw, zl, fun H1 s1 => ⟨true, rfl, iteF ?_⟩⟩
    have ht1 := s1 _ _ ht
    rw [tnext_eq]
    have wb : Wb W := ⟨iw.2, by rw [iw.1]; omega⟩
    refine ⟨_, rfl, t, _, 0, .int (cost a (b + d) W : Nat), rfl, rfl, .inl (.inl ht1), rfl, _, rfl, _, rfl, t, _, 1, .ref l, rfl, rfl, .inl (.inl ht1), rfl, F, l, W, a, b, c, d, rfl, fl.same s1, WrL.same ⟨us, hl, av⟩ s1, wb, fun H2 s2 => ⟨rfl, ?_⟩⟩
    rw [decide_eq_true rfl]
    refine ⟨true, rfl, iteT ?_⟩
    refine ⟨_, rfl, t, _, 0, .int (cost a (b + d) W : Nat), rfl, rfl, .inl (.inl (s2 _ _ ht1)), rfl, .int (cost a (b + d) W : Nat), "bool", false, rfl, .int _, by show kitB "int" "bool" = some false; decide +kernel, false, rfl, q H2 (s1.trans s2)⟩
end
end K61

set_option Elab.async false
set_option linter.all false
set_option maxRecDepth 100000
set_option maxHeartbeats 4000000
/-! exceptions: kept behind the suite that catches them; defs that raise; errors with one field -/
namespace CK
open PySem PySem.Spec PyProof.Rows L2
/-- a caught exception that is still held -/
def ExV (a : Addr) (cls : Value) (d : Option Addr) : HO := .ext fun g => ∃ ob fv, g.get? a = some ob ∧ Zc cls d ob ∧ ob.data = .fields fv
section
variable {X : Cx} {pins : List (Addr × Obj)} {σ : L2.St} {H : Hp} {g : Heap} {a : Addr} {cls : Value} {d : Option Addr} {ob : Obj} {fv : Array Value} {B : Heap} {y z : Shared}
theorem exV_ok {P : Program} {w : World} (h1 : g.get? a = some ob) (h2 : Zc cls d ob) (h3 : ob.data = .fields fv) : ObjOk P w H g a (ExV a cls d) :=
  ⟨⟨ob, fv, h1, h2, h3⟩, ⟨ob, h1⟩, fun _ _ ⟨o', v', y1, y2⟩ k => ⟨o', v', k _ y1, y2⟩⟩
theorem exV_at {P : Program} {w : World} (hok : HOk P w H g) (h : H a = some (ExV a cls d)) : ∃ ob fv, g.get? a = some ob ∧ Zc cls d ob ∧ ob.data = .fields fv := by
  have := hok a _ h
  exact this.1
/-- the exception's object is tracked from now on -/
theorem held_now (I : Inv X pins σ H y) (gr : ∀ b o, y.heap.get? b = some o → b ∉ frs X.stack → B.get? b = some o) (up : y.heap.UpToSlots z.heap) (st : B.StaysIn z.heap) (nB : B.get? a = none) (na : H a = none) (nf : a ∉ frs X.stack)
    (h1 : z.heap.get? a = some ob) (h2 : Zc cls d ob) (h3 : ob.data = .fields fv) (os : z.os = y.os) (ag : AllBare z.gens) : Inv X pins σ (upd H a (ExV a cls d)) z := by
  have old : ∀ {b o}, y.heap.get? b = some o → b ≠ a := fun {b o} e q => by
    subst q
    rw [gr b o e nf] at nB
    cases nB
  have fr : ∀ b ∈ frs X.stack, ∀ o, y.heap.get? b = some o → ∃ sl, z.heap.get? b = some { o with slots := sl } := fun b hb o e => by
    obtain ⟨_, o2, e2, hnf⟩ := I.stack.mem hb
    obtain rfl : o2 = o := Option.some.inj (e2.symm.trans e)
    exact up b o2 e2 hnf
  refine I.call' (ch := []) os ⟨?_, ?_, ?_, ?_, ?_, ?_, ?_⟩ ?_ ag (fun _ q => nomatch q)
  · exact fun b o e _ hb _ => st b o (gr b o e hb)
  · exact fun b o e _ hb _ => fr b hb o e
  · exact fun b o e n _ => (upd_ne (old e)).trans n
  · intro b o e _
    by_cases hb : b ∈ frs X.stack
    · exact ⟨_, (fr b hb o e).choose_spec⟩
    · exact ⟨o, st b o (gr b o e hb)⟩
  · exact fun b xs e => (upd_ne (ne_of_none e na)).trans e
  · exact fun b o u e => (upd_ne (ne_of_none e na)).trans e
  · exact fun b ps e => ⟨#[], by rw [upd_ne (ne_of_none e na), e, Array.append_empty]⟩
  · intro b o e
    by_cases hb : b = a
    · subst hb
      obtain rfl : ExV b cls d = o := Option.some.inj (upd_same.symm.trans e)
      exact exV_ok h1 h2 h3
    · have e' : H b = some o := (upd_ne hb).symm.trans e
      exact (I.inGround gr b o e').stay (fun c v _ q => st c v q) (fun c q => (upd_ne (ne_of_none q na)).trans q) (fun c xs q => (upd_ne (ne_of_none q na)).trans q)
/-- into the suite, and back -/
theorem to_suite {a : Addr} (I : Inv X pins σ H z) : Inv (X.suite a (X.pn ++ pins)) [] σ H z :=
  ⟨I.ok.suite a _, I.os, I.bare, I.base, I.loc, I.cell, I.free, I.freeC, fun p hp => I.pin p (by simpa using hp), I.hok, I.len⟩
theorem of_suite {a : Addr} {more : List (Addr × Obj)} (I : Inv (X.suite a (X.pn ++ pins)) more σ H z) (ok : X.Ok) : Inv X pins σ H z :=
  ⟨ok, I.os, I.bare, I.base, I.loc, I.cell, I.free, I.freeC, fun p hp => I.pin p (List.mem_append.mpr (.inl hp)), I.hok, I.len⟩
end
/-- what 'except x as n: suite' wishes where x is met: n in slot i; the exception is held from there on -/
def wKeep (K : PySem.W.Frag) (c : Value) (i : Nat) (ts : Addr → TS) (D : Ends) : WX := fun cls d σ H =>
  PySem.W.exmOne K cls c = some true ∧ ∀ a, H a = none → ts a { nx := fun σ' H' => D.nx (σ'.set i none) H', rt := D.rt, bk := fun σ' H' => D.bk (σ'.set i none) H', ct := fun σ' H' => D.ct (σ'.set i none) H' } (σ.set i (some (.ref a))) (upd H a (ExV a cls d))
section
variable {X : Cx} {x n : Str} {c : Value} {i : Nat} {body suite : List Stmt} {b₀ : Stmt} {np pos pos' : Pos} {tb : WX → TS} {ts : Addr → TS}
theorem ps_try_keep (hs : X.stack = X.env :: X.outer) (hf : X.env.frame = some X.env.locals) (hN : X.N.Nodup) (hi : X.N[i]? = some n) (hln : X.env.kindOf n = some .local) (hg : Gl X x) (hdb : (x == ("__debug__" : Str)) = false) (hm : X.mg x = some c)
    (hb : ∀ (W : WX) (pn : List (Addr × Obj)) (xe : Value → Shared → Prop), Takes (X.tr pn xe) W → PSs (X.tr pn xe) body (tb W)) (hsu : ∀ (a : Addr) (pn : List (Addr × Obj)), PSs (X.suite a pn) (b₀ :: suite) (ts a)) :
    PS X (.Try body [.ExceptHandler (some (.Name x np)) (some n) (b₀ :: suite) pos'] [] [] pos) (fun D σ H => tb (wKeep X.K c i ts D) D σ H) := by
  constructor
  intro pins z σ H D I h
  have hfr : X.A.frames = some (X.env :: X.outer) := I.ok.frames.trans (congrArg some hs)
  refine wpAny_Try_except (wpAny_mono ((hb (wKeep X.K c i ts D) (X.pn ++ pins) _ ?_).run [] z σ H D (I.toTry _) h) ?_ (fun _ _ q => q))
  · rintro _ z1 ⟨a, B, y, pins', σ1, H1, cls, d, rfl, J', gr, up, sky, na, os, ag, hx, hyes⟩
    have J : Inv X pins σ1 H1 y := J'.ofTry I.ok
    have sky1 : Sky B (X.env :: X.outer) a (Zc cls d) X.env.locals z1.heap := hs ▸ sky
    refine Sky.land Zc.steady hfr hf sky1 fun g3 fl3 up3 => ?_
    have nf : ∀ {g : Heap}, HandSPX.FlyingZ B (X.env :: X.outer) a (Zc cls d) g → a ∉ frs X.stack := fun {g} fl hm => by
      obtain ⟨ob, fv, h1, _, h3⟩ := fl.there
      rw [hs] at hm
      obtain ⟨_, o2, e2, hn⟩ := fl.2.2.1.mem hm
      obtain rfl : ob = o2 := Option.some.inj (h1.symm.trans e2)
      exact hn fv h3
    obtain ⟨ob3, fv3, a1, a2, a3⟩ := fl3.there
    have V3 := to_suite (a := a) (held_now (z := { z1 with heap := g3 }) J gr (up.trans up3) fl3.1 fl3.2.1 na (nf fl3) a1 a2 a3 os ag)
    refine wpAny_handleBy_cons (codeAny_handlers_test (ld_glob V3 hg hm ?_ hdb)) (fun q => nomatch q)
    have isc : PySem.W.Looks (model X.prog X.w) g3 (typeOf (.ref a)) cls := fun _ _ _ _ k q => wpAny_typeOf_ref (k _ _ a1) (a2.1.symm ▸ q)
    refine (PySem.W.exm_one V3.kIn isc hx).here (codeAny_handlers_suite_as (HandSPX.lands_againZ fl3 fun g4 fl4 up4 => ?_))
    obtain ⟨ob4, fv4, b1, b2, b3⟩ := fl4.there
    have V4 := to_suite (a := a) (held_now (z := { z1 with heap := g4 }) J gr ((up.trans up3).trans up4) fl4.1 fl4.2.1 na (nf fl4) b1 b2 b3 os ag)
    refine store_ok (X := X.suite a (X.pn ++ pins)) V4 hN hi (.inl hln) (v := .ref a) rfl (fun z5 V5 => ?_) (.inr hln)
    refine wpAny_mono ((hsu a (X.pn ++ pins)).run [] z5 _ _ _ V5 (hyes a na)) ?_ (fun _ _ q => q.elim)
    rintro f z6 got
    cases f with
    | next => exact gone_ok (of_suite got.choose_spec.choose_spec.1 I.ok) hN hi hln fun z7 V7 => ⟨_, _, V7, got.choose_spec.choose_spec.2⟩
    | brk => exact gone_ok (of_suite got.choose_spec.choose_spec.1 I.ok) hN hi hln fun z7 V7 => ⟨_, _, V7, got.choose_spec.choose_spec.2⟩
    | cont => exact gone_ok (of_suite got.choose_spec.choose_spec.1 I.ok) hN hi hln fun z7 V7 => ⟨_, _, V7, got.choose_spec.choose_spec.2⟩
    | ret u =>
      obtain ⟨v, σ6, H6, V6, r6, q6⟩ := got
      exact gone_ok (of_suite V6 I.ok) hN hi hln fun z7 V7 => ⟨v, _, _, V7, r6, q6⟩
  · rintro f z1 got
    cases f with
    | next => exact wpAny_execs_nil ⟨_, _, got.choose_spec.choose_spec.1.ofTry I.ok, got.choose_spec.choose_spec.2⟩
    | brk => exact ⟨_, _, got.choose_spec.choose_spec.1.ofTry I.ok, got.choose_spec.choose_spec.2⟩
    | cont => exact ⟨_, _, got.choose_spec.choose_spec.1.ofTry I.ok, got.choose_spec.choose_spec.2⟩
    | ret u =>
      obtain ⟨v, σ6, H6, V6, r6, q6⟩ := got
      exact ⟨v, _, _, V6.ofTry I.ok, r6, q6⟩
end
/-! ### defs that may raise -/
section
variable {P : Program} {w : World} {K : PySem.W.Frag} {mg : Str → Option Value} {base : Heap} {k : Nat} {x : Str} {st : Stmt} {sp : Sp}
/-- where nothing is let out, a def that may raise is one that doesn't -/
theorem calm_of {f : Addr} {fd : FuncData} {ps : List Str} (F : FnOk P w K mg base (L2.CX P w) k f fd ps sp) : FnOk P w K mg base C8.CX0 k f fd ps (fun vs H Q _ => sp vs H Q E0) := by
  refine ⟨fun vs H Q _ h => F.len vs H Q E0 h, fun A outer z H args us vs Q E hr e0 hb r h => codeAny_mono (F.run A outer z H args us vs Q E0 hr e0 hb r h) fun res z' got => ?_⟩
  cases res with
  | ok f => cases f <;> exact got
  | error e =>
    obtain ⟨_, _, _, _, _, _, _, _, _, _, _, _, q⟩ := got
    exact q.elim
/-- a def that may raise, by its name -/
structure CalX (P : Program) (w : World) (K : PySem.W.Frag) (mg : Str → Option Value) (base : Heap) (k : Nat) (x : Str) (sp : Sp) : Prop where
  ex : ∃ (f : Addr) (fd : FuncData) (ps : List Str), FnOk P w K mg base (L2.CX P w) k f fd ps sp ∧ mg x = some (.ref f) ∧ PySem.W.keepIn K (.ref f) = true ∧ Binds K fd ps []
theorem CalX.cal (c : CalX P w K mg base k x sp) : C8.Cal P w K mg base k x (fun vs H Q _ => sp vs H Q E0) [] := by
  obtain ⟨f, fd, ps, F, m, kp, b⟩ := c.ex
  exact ⟨f, fd, ps, [], calm_of F, m, kp, b, .nil⟩
theorem fnX_of {q : Str} {f : Addr} {fd : FuncData} {N ps : List Str} (F : C8.Fun K x q st f fd) (S : FnScope N ps (C8.fnScope st)) (len : ∀ vs H Q E, sp vs H Q E → vs.length = ps.length)
    (body : ∀ (cdv : Value) (A : Around) (outer : List Env) (z : Shared) (H : Hp) (vs : List V) (Q : VK) (E : XK), Room k (A.deeper (envOfC q (C8.fnScope st) z.heap.objs.size f cdv)) → sp vs H Q E →
      ∃ t, PSs (cxOf (L2.CX P w) P w K mg base N q (C8.fnScope st) f cdv A outer z H E) (C8.fnBody st) t ∧ t { nx := fun _ H' => Q .non H', rt := Q } (start N vs) H) : FnOk P w K mg base (L2.CX P w) (k + 1) f fd ps sp := by
  obtain ⟨_, _, _, _, _, _, _, cdv, _, _, rfl, lk, hc⟩ := F.ex
  exact fn_of lk hc S len fun A outer z H vs Q E hr h => body cdv A outer z H vs Q E hr h
theorem calX {N ps : List Str} (D : DefF K mg x st ps) (S : FnScope N ps (C8.fnScope st)) (len : ∀ vs H Q E, sp vs H Q E → vs.length = ps.length)
    (body : ∀ (f : Addr) (cdv : Value) (A : Around) (outer : List Env) (z : Shared) (H : Hp) (vs : List V) (Q : VK) (E : XK), Room k (A.deeper (envOfC x (C8.fnScope st) z.heap.objs.size f cdv)) → sp vs H Q E →
      ∃ t, PSs (cxOf (L2.CX P w) P w K mg base N x (C8.fnScope st) f cdv A outer z H E) (C8.fnBody st) t ∧ t { nx := fun _ H' => Q .non H', rt := Q } (start N vs) H) : CalX P w K mg base (k + 1) x sp := by
  obtain ⟨f, fd, F, b⟩ := D.ex
  exact ⟨f, fd, ps, fnX_of F.fn S len (body f), F.mgf, F.kp, .all b⟩
end
section
variable {X : Cx} {k j : Nat} {x : Str} {sp : Sp} {p pos : Pos} {e : Expr} {es : List Expr} {t : TA} {W : WX}
theorem pe_x (c : CalX X.prog X.w X.K X.mg X.base k x sp) (tk : Takes X W) (hr : Room j X.A) (hk : k ≤ j) (hg : Gl X x) (ha : PA X (e :: es) t)
    (hdb : (x == ("__debug__" : Str)) = false := by decide) (he : starEach (e :: es) X.env = (false, eval e X.env) :: starEach es X.env := by rfl) (hpl : (backTo pos (starEach es X.env)).any (·.1) = false := by rfl) :
    PE X (.Call (.Name x p) (e :: es) [] pos) (tCallS sp (WE W) t) := by
  obtain ⟨f, fd, ps, F, m, kp, b⟩ := c.ex
  exact pe_callS F (hr.mono hk) hg m kp b (fun σ => passAt tk σ) ha hdb he hpl
end
/-! ### an error with one field -/
/-- __init__(self, value=..): self.value = value -/
structure ErrF (K : PySem.W.Frag) (mg : Str → Option Value) (x fl : Str) (C : Addr) : Prop where
  gC : mg x = some (.ref C)
  ox : OexC K C
  xf : XfC K C
  xc : ExcC K C
  no : PySem.W.findIn K (.ref C) fl = some none
  cl : (PySem.W.clsIn K C).isSome = true
  rf : PySem.W.subIn K (.ref C) (.ref C) = some true
  fn : ∃ (st : Stmt) (q : Str) (f : Addr) (fd : FuncData), C8.Fun K "__init__" q st f fd ∧ PySem.W.findIn K (.ref C) "__init__" = some (some (.ref f)) ∧ PySem.W.typeIn K (.ref f) = some (.type "function") ∧ Binds K fd ["self", fl] [] ∧
    FnScope ["self", fl] ["self", fl] (C8.fnScope st) ∧ (C8.fnScope st).names.lookup ("self" : Str) = some .local ∧ (C8.fnScope st).names.lookup fl = some .local ∧ (fl == ("__debug__" : Str)) = false ∧ (fl == ("__classdict__" : Str)) = false ∧
    ∃ q1 q2 q3 q4, C8.fnBody st = [.Assign [.Attribute (.Name "self" q1) fl q2] (.Name fl q3) q4]
def sp_err (C : Addr) (fl : Str) : Sp := fun vs H Q _ => ∃ a v, vs = [.ref a, v] ∧ H a = some (exo a C none) ∧ ∀ dx, H dx = none → dx ≠ a → Q .non (upd (upd H dx (exd dx [(fl, v)])) a (exo a C (some dx)))
section
variable {P : Program} {w : World} {K : PySem.W.Frag} {mg : Str → Option Value} {base : Heap} {x fl : Str} {C : Addr}
theorem ErrF.init (T : ErrF K mg x fl C) : ∃ (f : Addr) (fd : FuncData), FnOk P w K mg base (L2.CX P w) 1 f fd ["self", fl] (sp_err C fl) ∧ PySem.W.findIn K (.ref C) "__init__" = some (some (.ref f)) ∧ PySem.W.typeIn K (.ref f) = some (.type "function") ∧ Binds K fd ["self", fl] [] := by
  obtain ⟨st, qn, f, fd, F, iC, tI, bd, S, l1, l2, n1, n2, q1, q2, q3, q4, eb⟩ := T.fn
  refine ⟨f, fd, fnX_of F S (fun vs H Q E h => ?_) (fun cdv A outer z H vs Q E hr h => ?_), iC, tI, bd⟩
  · obtain ⟨a, v, rfl, _⟩ := h
    rfl
  · obtain ⟨a, v, rfl, ea, q⟩ := h
    have k1 : (envOfC qn (C8.fnScope st) z.heap.objs.size f cdv).kindOf "self" = some .local := l1
    have k2 : (envOfC qn (C8.fnScope st) z.heap.objs.size f cdv).kindOf fl = some .local := l2
    refine ⟨_, by rw [eb]; exact pss_one (ps_ost (pe_var (i := 0) rfl (.inl k1) (by decide) (by decide)) (pe_var (i := 1) rfl (.inl k2) n1 n2)), ?_⟩
    exact ⟨_, rfl, _, rfl, a, C, rfl, T.ox, T.no, .inl ⟨ea, fun dx n ne => q dx n ne⟩⟩
end
section
variable {X : Cx} {x fl : Str} {C : Addr} {j : Nat} {W : WX} {e : Expr} {te : TE} {p pos pos' : Pos}
theorem pe_mono {X : Cx} {e : Expr} {te : TE} (he : PE X e te) : PE X e (fun σ H Q' => ∃ Q : VK, te σ H Q ∧ ∀ v H1, Q v H1 → Q' v H1) :=
  ⟨fun pins z σ H Q' I ⟨Q, h, m⟩ => thn (he.run pins z σ H Q I h) fun u z1 ⟨v, H1, I1, r, q⟩ => ⟨v, H1, I1, r, m v H1 q⟩⟩
/-- raise x(e) -/
theorem ps_raiseE (T : ErrF X.K X.mg x fl C) (hc : X.calm = true) (tk : Takes X W) (hr : Room j X.A) (h2 : 2 ≤ j) (hg : Gl X x) (he : PE X e te) (hdb : (x == ("__debug__" : Str)) = false := by decide)
    (hse : starEach [e] X.env = (false, eval e X.env) :: starEach [] X.env := by rfl) (hpl : (backTo pos (starEach [] X.env)).any (·.1) = false := by rfl) :
    PS X (.Raise (some (.Call (.Name x p) [e] [] pos)) none pos') (fun _ σ H => te σ H fun v H1 => ∀ d, H1 d = none → W (.ref C) (some d) σ (upd H1 d (.xd [(fl, v)]))) := by
  obtain ⟨f, fd, F, iC, tI, bd⟩ := T.init (P := X.prog) (w := X.w) (base := X.base)
  refine ps_raise hc tk (t := fun σ H Q => te σ H fun v H1 => ∀ d, H1 d = none → Q (.ref C) (some d) (upd H1 d (.xd [(fl, v)]))) (fun pins z σ H Q I h => ?_)
  refine pmk_oex (dvs := []) T.ox iC tI F (hr.mono h2) bd .nil passL hg T.gC (pa_cons (hs := hse) (pe_mono he) pa_nil) hdb hse hpl pins z σ H Q I ⟨_, h, fun v H1 q => ⟨(by show 1 ≤ 1000; decide), fun a na => ⟨a, v, rfl, upd_same, fun dx n ne => ?_⟩⟩⟩
  have nd : H1 dx = none := (upd_ne ne).symm.trans n
  refine ⟨rfl, dx, _, upd_same, (upd_ne ne).trans upd_same, nd, ?_⟩
  have e : upd (del (upd (upd (upd H1 a (exo a C none)) dx (exd dx [(fl, v)])) a (exo a C (some dx))) a) dx (.xd [(fl, v)]) = upd H1 dx (.xd [(fl, v)]) := by
    funext b
    by_cases h1 : b = dx
    · rw [h1, upd_same, upd_same]
    · rw [upd_ne h1, upd_ne h1]
      by_cases h2 : b = a
      · rw [h2, del_same, na]
      · rw [del_ne h2, upd_ne h2, upd_ne h1, upd_ne h2]
  rw [e]
  exact q dx nd
end
/-! ### what is caught, looked at -/
section
variable {X : Cx}
inductive TyE (K : PySem.W.Frag) (H : Hp) : V → Value → Prop where
  | dat {x : V} {t : Value} (h : TyX K H x t) : TyE K H x t
  | exc {a C d : Addr} {fs : List (Str × V)} (T : ExcC K C) (cl : (PySem.W.clsIn K C).isSome = true) (ea : H a = some (ExV a (.ref C) (some d))) (ed : H d = some (.xd fs)) : TyE K H (.ref a) (.ref C)
theorem inst_of {P : Program} {w : World} {H : Hp} {g : Heap} {a C d : Addr} {fs : List (Str × V)} (hok : HOk P w H g) (ea : H a = some (ExV a (.ref C) (some d))) (ed : H d = some (.xd fs)) :
    ∃ (ob od : Obj) (mA : Str → Option Value), PySem.W.InstAt g a ob C (some od) ∧ (∀ f, PySem.W.lookIn f od = some (mA f)) ∧ ∀ f, RelO (fs.lookup f) (mA f) := by
  obtain ⟨ob, fv, h1, h2, h3⟩ := exV_at hok ea
  have hx : ObjOk P w H g d (.xd fs) := hok d _ ed
  obtain ⟨mA, hns, hr⟩ := hx
  obtain ⟨od, ho, hl⟩ := lookIn_ns hns
  exact ⟨ob, od, mA, ⟨h1, h2.1, by unfold PySem.W.notCls; rw [h3] <;> rfl, by rw [h2.2]; exact ho⟩, hl, hr⟩
theorem kit_ofE {pins : List (Addr × Obj)} {σ : L2.St} {H : Hp} {z : Shared} {x : V} {u t : Value} (I : Inv X pins σ H z) (rx : RelV x u) (ty : TyE X.K H x t) : ∃ P : Heap → Prop, PySem.W.KitX X.K u t P ∧ P z.heap ∧ u ≠ .builtin "__main__.__loader__#opaque" := by
  cases ty with
  | dat h => exact kit_of I rx h
  | @exc a C d fs T cl ea ed =>
    obtain rfl : u = Value.ref a := rx
    obtain ⟨ob, od, _, J, _⟩ := inst_of I.hok ea ed
    exact ⟨_, PySem.W.kitx_exc cl T.hg T.hk T.hs T.ha T.hn T.ht T.hm, J, fun q => nomatch q⟩
/-- isinstance(x, C), x data or held -/
theorem call_isE : CallR X (.builtin "isinstance") (fun xs H Q => ∃ (x c : V) (t u : Value) (b : Bool), xs = [x, c] ∧ ClsV c u ∧ TyE X.K H x t ∧ PySem.W.kitOne X.K t u = some b ∧ Q (.bl b) H) := by
  intro pins z σ H xs us Q I r h
  obtain ⟨x, c, t, u, b, rfl, k, ty, e, q⟩ := h
  obtain ⟨u1, u2, rfl, r1, r2⟩ := vals2 r
  obtain rfl := k.eq r2
  obtain ⟨_, Z, pz, hx⟩ := kit_ofE I r1 ty
  exact PySem.W.kia_one Z I.kIn pz e hx (fun tk => ⟨.bl b, H, I.tok tk, rfl, q⟩)
/-- .. of a tuple of classes -/
theorem call_isEt : CallR X (.builtin "isinstance") (fun xs H Q => ∃ (x : V) (tp : Addr) (cs : List V) (t : Value) (us : List Value) (b : Bool), xs = [x, .ref tp] ∧ H tp = some (.tup cs) ∧ Paired ClsV cs us ∧ TyE X.K H x t ∧ PySem.W.kitAny X.K t us = some b ∧ Q (.bl b) H) := by
  intro pins z σ H xs us Q I r h
  obtain ⟨x, tp, cs, t, ws, b, rfl, ht, k, ty, e, q⟩ := h
  obtain ⟨u1, u2, rfl, r1, r2⟩ := vals2 r
  obtain rfl : u2 = Value.ref tp := r2
  obtain ⟨_, Z, pz, hx⟩ := kit_ofE I r1 ty
  have hk : ObjOk X.prog X.w H z.heap tp (.tup cs) := I.hok tp _ ht
  obtain ⟨_, its, rv, ⟨oc, od, dt, sl⟩, g1, g2, n, g3⟩ := hk
  obtain rfl := ClsV.all k rv
  dsimp only at g2 g3
  subst g2 g3
  exact PySem.W.kia_tup Z I.kIn pz g1 e hx (fun tk => ⟨.bl b, H, I.tok tk, rfl, q⟩)
/-- e.f of what is held -/
theorem pe_fldE {e : Expr} {te : TE} {n : Str} {pos : Pos} (he : PE X e te) (hb : attributeBase e n X.env (eval e X.env) = eval e X.env := by rfl) :
    PE X (.Attribute e n pos) (fun σ H Q => te σ H fun x H1 => ∃ (a C d : Addr) (fs : List (Str × V)) (v : V), x = .ref a ∧ XfC X.K C ∧ PySem.W.findIn X.K (.ref C) n = some none ∧ H1 a = some (ExV a (.ref C) (some d)) ∧ H1 d = some (.xd fs) ∧ fs.lookup n = some v ∧ Q v H1) := by
  refine ⟨fun pins z σ H Q I h => attr_of hb (thn (he.run pins z σ H _ I h) fun u z1 got => ?_)⟩
  obtain ⟨x, H1, I1, rx, a, C, d, fs, v, rfl, T, hno, ea, ed, l, q⟩ := got
  obtain rfl : u = Value.ref a := rx
  obtain ⟨ob, od, mA, J, hl, hr⟩ := inst_of I1.hok ea ed
  obtain ⟨u', hu, ru⟩ := RelO.some_of (v := v) (o := mA n) (by rw [← l]; exact hr n)
  exact HandSPX.exc_get I1.kIn J T.ga T.gg T.exC (PySem.W.findObj_own T.hdC hno rfl (by rw [hl, hu])) (handed_of ru) ⟨v, H1, I1.tok _, ru, q⟩
theorem kit_err {K : PySem.W.Frag} {mg : Str → Option Value} {x fl : Str} {C D : Addr} {b : Bool} (T : ErrF K mg x fl D) (s : PySem.W.subIn K (.ref C) (.ref D) = some b) : PySem.W.kitOne K (.ref C) (.ref D) = some b := by
  unfold PySem.W.kitOne
  by_cases e : C = D
  · subst e
    rw [if_pos (beq_self_eq_true _)]
    exact T.rf.symm.trans s
  · rw [if_neg (by simpa using e)]
    unfold PySem.W.kitCls
    simp only [T.cl, T.ox.tyC, beq_self_eq_true, Bool.and_self, if_true]
    exact s
end
/-! ### the classes as they stand behind the top -/
structure BaseE (K : PySem.W.Frag) (mg : Str → Option Value) (x : Str) (C : Addr) : Prop where
  gC : mg x = some (.ref C)
  sb : PySem.W.subIn K (.ref C) (.type "BaseException") = some true
  hd : PySem.W.hasDictIn K C = true
  ty : PySem.W.typeIn K (.ref C) = some (.type "type")
section
variable {K : PySem.W.Frag} {h : Heap} {mg : Str → Option Value} {x y fl : Str} {C D : Addr}
theorem baseE_mk (X : K.In h) (G : h.Ns mainGlobals mg) (a : PySem.W.nsIn K mainGlobals x = some (some (.ref C))) (b : PySem.W.subIn K (.ref C) (.type "BaseException") = some true)
    (c : PySem.W.hasDictIn K C = true) (d : PySem.W.typeIn K (.ref C) = some (.type "type")) : BaseE K mg x C := ⟨PySem.W.mg_of X G a, b, c, d⟩
theorem with_base (_ : K.In h) (x : Str) {R : Prop} (d : BaseE K mg x C) (r : BaseE K mg x C → R) : R := r d
theorem exm_err (T : BaseE K mg x D) (s : PySem.W.subIn K (.ref C) (.ref D) = some true) : PySem.W.exmOne K (.ref C) (.ref D) = some true := PySem.W.exm_ref T.sb T.hd T.ty s
theorem sub_is (_ : mg x = some (.ref C)) (_ : mg y = some (.ref D)) (b : Bool) (s : PySem.W.subIn K (.ref C) (.ref D) = some b) : PySem.W.subIn K (.ref C) (.ref D) = some b := s
theorem with_sub {R : Prop} (_ : ErrF K mg x fl C) (_ : mg y = some (.ref D)) (b : Bool) (s : PySem.W.subIn K (.ref C) (.ref D) = some b) (r : PySem.W.subIn K (.ref C) (.ref D) = some b → R) : R := r s
theorem with_err (_ : K.In h) (x fl : Str) (st : Stmt) {R : Prop} (d : ErrF K mg x fl C) (r : ErrF K mg x fl C → R) : R := r d
theorem errF_mk (X : K.In h) (G : h.Ns mainGlobals mg) (qn : Str) (st : Stmt) {f T : Addr} {od an : Option Addr} {oc kV dc pm cd ct u : Value} {sl : Array (Option Value)} {o : Obj} {nn : Nat}
    {nm q : Str} {N : Addr} {bs bm : List Value} {sn : List Str} {sub : List Value} {ab : Bool} {col : Option Bool} {dd : Option Addr} {k0 k1 k2 k3 k5 : Option Value}
    (a : PySem.W.nsIn K mainGlobals x = some (some (.ref C)))
    (lk : K.lookup C = some (excClassObj nm q C N bs bm true sn sub ab col dd k0 k1 k2 k3 k5 "ValueError.__new__")) (hbm : PySem.HandSPX.refsVE bm = true)
    (sa : PySem.W.findIn K (.ref C) "__setattr__" = some (some (.builtin "object.__setattr__"))) (eC : PySem.W.subIn K (.ref C) (.type "BaseException") = some true)
    (tC : PySem.W.typeIn K (.ref C) = some (.type "type")) (kp : PySem.W.keepIn K (.ref C) = true)
    (ga : PySem.W.findIn K (.ref C) "__getattribute__" = some (some (.builtin "BaseException.__getattribute__"))) (gg : PySem.W.findIn K (.ref C) "__getattr__" = some none) (hd : PySem.W.hasDictIn K C = true)
    (hc : PySem.W.findIn K (.ref C) "__class__" = some (some (.builtin "object.__class__"))) (hn : PySem.W.specialIn K (.builtin "object.__class__") "__get__" = some (some (.builtin "getset_descriptor.__get__")))
    (ht : PySem.W.takesIn K (.builtin "object.__class__") = some true) (hm : PySem.W.mroIn K C (.type "object") = some true) (no : PySem.W.findIn K (.ref C) fl = some none)
    (rf : PySem.W.subIn K (.ref C) (.ref C) = some true) (ii : PySem.W.findIn K (.ref C) "__init__" = some (some (.ref f))) (it : PySem.W.typeIn K (.ref f) = some (.type "function"))
    (il : K.lookup f = some ⟨oc, od, .func (PySem.W.fnOf "__init__" qn (C8.fnArgs st) (C8.fnBody st) (C8.fnScope st) (.ref T) kV dc pm an cd ct), sl⟩) (ic : PySem.W.codeIn K cd qn = true) (ik : PySem.W.keepIn K (.ref f) = true)
    (dl : K.lookup T = some o) (dm : o.data = .seq #[u] nn) (dr : RelV .non u)
    (bd : ∀ (T : Addr) (kV doc pm : Value) (an : Option Addr) (cdv ct : Value) (us its : List Value), us.length = 2 → its.length = 1 →
      ∃ k, bindArgs (PySem.W.fnOf "__init__" qn (C8.fnArgs st) (C8.fnBody st) (C8.fnScope st) (.ref T) kV doc pm an cdv ct) ⟨us, []⟩ = seqItems? (.ref T) >>= k ∧ k (some its.toArray) = pure ([("self" : Str), fl].zip (us ++ its.drop 1)))
    (sc : FnScope ["self", fl] ["self", fl] (C8.fnScope st)) (l1 : (C8.fnScope st).names.lookup ("self" : Str) = some .local) (l2 : (C8.fnScope st).names.lookup fl = some .local) (n1 : (fl == ("__debug__" : Str)) = false) (n2 : (fl == ("__classdict__" : Str)) = false)
    (by_ : ∃ q1 q2 q3 q4, C8.fnBody st = [.Assign [.Attribute (.Name "self" q1) fl q2] (.Name fl q3) q4]) : ErrF K mg x fl C := by
  have F : FunD K "__init__" qn (C8.fnArgs st) (C8.fnBody st) (C8.fnScope st) [.non] [] f (PySem.W.fnOf "__init__" qn (C8.fnArgs st) (C8.fnBody st) (C8.fnScope st) (.ref T) kV dc pm an cd ct) :=
    ⟨⟨oc, od, .ref T, kV, dc, pm, an, cd, ct, sl, rfl, il, ic, dfl_one dl dm dr, kwd_nil⟩, ik⟩
  obtain ⟨ds, rd, hb⟩ := F.binds1 (ps := ["self", fl]) 2 1 (by simp) rfl bd
  cases rd
  have cl : (PySem.W.clsIn K C).isSome = true := by
    unfold PySem.W.clsIn
    rw [lk] <;> rfl
  exact ⟨PySem.W.mg_of X G a, ⟨⟨nm, q, N, bs, bm, sn, sub, ab, col, dd, k0, k1, k2, k3, k5, lk, hbm⟩, sa, eC, tC, kp⟩, ⟨ga, gg, eC, hd⟩, ⟨ga, gg, eC, hd, hc, hn, ht, hm⟩, no, cl, rf,
    st, qn, f, _, fun_of F, ii, it, hb, sc, l1, l2, n1, n2, by_⟩
end
end CK

set_option Elab.async false
set_option linter.all false
set_option maxRecDepth 100000
set_option maxHeartbeats 2000000
/-! == of two objects of an own class, by its __eq__, which may say yes or no -/
namespace CK
open PySem PySem.Spec PyProof.Rows L2 SX
section
variable {X : Cx} {k j : Nat} {C : Addr} {sp : Sp}
def rEqO (C : Addr) (sp : Sp) : R2 := fun x y H Q => ∃ a b dx fs dy gs, x = .ref a ∧ y = .ref b ∧ H a = some (.ins C dx fs) ∧ H b = some (.ins C dy gs) ∧ sp [.ref a, .ref b] H (fun v H' => (∃ r, v = .bl r) ∧ Q v H') C8.E0
theorem op_eqO (c : C8.Met X.prog X.w X.K X.mg X.base k C "__eq__" sp []) (hr : Room j X.A) (hk : k ≤ j) : OpR X (compareOp .Eq) (rEqO C sp) := by
  intro pins s σ H x y v u Q I rx ry h
  obtain ⟨a, b, dx, fs, dy, gs, rfl, rfl, ha, hb', hsp⟩ := h
  obtain ⟨f, fd, ps, ds, hc, hm, F, bnd, d⟩ := c.ex
  cases d
  cases rx
  cases ry
  obtain ⟨mA, J, _⟩ := ins_get I.hok ha
  obtain ⟨mB, J', _⟩ := ins_get I.hok hb'
  obtain ⟨od, J, _⟩ := J.look
  obtain ⟨od', J', _⟩ := J'.look
  obtain ⟨m, hF⟩ := I.fr
  have hr' := hr.mono hk
  show wpAny (model X.prog X.w) X.A (richCompare .Eq (.ref a) (.ref b)) (EP X pins σ Q) X.xe s
  refine PySem.W.cmp_K (op := .Eq) (tb := .ref C) hr.units0 hF I.ok.mod.kin J J'.type (by simp [PySem.W.notFirst]) hm.at_ hm.fn ?_
  have hl := F.len _ _ _ _ hsp
  have r2 : Vals [V.ref a, V.ref b] [Value.ref a, Value.ref b] := .cons rfl (.cons rfl .nil)
  refine wpAny_call (codeAny_mono (F.run X.A X.stack s H ⟨[.ref a, .ref b], []⟩ [.ref a, .ref b] [.ref a, .ref b] _ C8.E0 hr' I.env0 (by
    have := bnd s [.ref a, .ref b] I.kIn (by simpa using hl)
    simpa using this) r2 hsp) fun r s' hq => ?_)
  cases r with
  | error e => exact C8.pass0 (E := C8.E0) pins σ H s e s' I hq
  | ok fl =>
    cases fl with
    | ret w =>
      obtain ⟨z, H', I', rz, ⟨r, ez⟩, q⟩ := I.after hq
      subst ez
      cases rz
      exact ⟨.bl r, H', I', rfl, q⟩
    | next => exact False.elim hq
    | brk => exact False.elim hq
    | cont => exact False.elim hq
end
end CK

set_option Elab.async false
set_option linter.all false
set_option maxRecDepth 100000
set_option maxHeartbeats 2000000
/-! == of an object of an own class and a list, by the object's __eq__ -/
namespace CK
open PySem PySem.Spec PyProof.Rows L2 SX
section
variable {X : Cx} {k j : Nat} {C : Addr} {sp : Sp}
def rEqOL (C : Addr) (sp : Sp) : R2 := fun x y H Q => ∃ a b dx fs xs, x = .ref a ∧ y = .ref b ∧ H a = some (.ins C dx fs) ∧ H b = some (.lst xs) ∧ sp [.ref a, .ref b] H (fun v H' => (∃ r, v = .bl r) ∧ Q v H') C8.E0
theorem notFirst_list (K : PySem.W.Frag) (C : Addr) : PySem.W.notFirst K C (.type "list") = true := by
  have : PySem.W.subIn K (.type "list") (.ref C) = some false := by rfl
  unfold PySem.W.notFirst
  rw [this]
  simp
theorem op_eqOL (c : C8.Met X.prog X.w X.K X.mg X.base k C "__eq__" sp []) (hr : Room j X.A) (hk : k ≤ j) : OpR X (compareOp .Eq) (rEqOL C sp) := by
  intro pins s σ H x y v u Q I rx ry h
  obtain ⟨a, b, dx, fs, xs, rfl, rfl, ha, hb', hsp⟩ := h
  obtain ⟨f, fd, ps, ds, hc, hm, F, bnd, d⟩ := c.ex
  cases d
  cases rx
  cases ry
  obtain ⟨mA, J, _⟩ := ins_get I.hok ha
  obtain ⟨od, J, _⟩ := J.look
  obtain ⟨its, rv, hT, _⟩ := I.list (.inl (.inl hb'))
  obtain ⟨m, hF⟩ := I.fr
  have hr' := hr.mono hk
  obtain ⟨ob, nb, eb, cb, _, _⟩ := hT
  have hty : PySem.W.Looks (model X.prog X.w) s.heap (typeOf (.ref b)) (.type "list") := (PySem.W.Looks.ld eb).andThen (by rw [cb]; exact .now)
  show wpAny (model X.prog X.w) X.A (richCompare .Eq (.ref a) (.ref b)) (EP X pins σ Q) X.xe s
  refine PySem.W.cmp_K (op := .Eq) (tb := .type "list") hr.units0 hF I.ok.mod.kin J hty (notFirst_list _ _) hm.at_ hm.fn ?_
  have hl := F.len _ _ _ _ hsp
  have r2 : Vals [V.ref a, V.ref b] [Value.ref a, Value.ref b] := .cons rfl (.cons rfl .nil)
  refine wpAny_call (codeAny_mono (F.run X.A X.stack s H ⟨[.ref a, .ref b], []⟩ [.ref a, .ref b] [.ref a, .ref b] _ C8.E0 hr' I.env0 (by
    have := bnd s [.ref a, .ref b] I.kIn (by simpa using hl)
    simpa using this) r2 hsp) fun r s' hq => ?_)
  cases r with
  | error e => exact C8.pass0 (E := C8.E0) pins σ H s e s' I hq
  | ok fl =>
    cases fl with
    | ret w =>
      obtain ⟨z, H', I', rz, ⟨r, ez⟩, q⟩ := I.after hq
      subst ez
      cases rz
      exact ⟨.bl r, H', I', rfl, q⟩
    | next => exact False.elim hq
    | brk => exact False.elim hq
    | cont => exact False.elim hq
/-- the class object is of the type type -/
def TyC (K : PySem.W.Frag) (C : Addr) : Prop := ∃ od cd sl, K.lookup C = some ⟨.type "type", od, .cls cd, sl⟩
theorem tyc_mk {K : PySem.W.Frag} {mg : Str → Option Value} {x : Str} {C : Addr} (_ : ClF K mg x C) {oc : Value} {od : Option Addr} {cd : ClassData} {sl : Array (Option Value)} (l : K.lookup C = some ⟨oc, od, .cls cd, sl⟩) (e : oc = .type "type") : TyC K C := by
  subst e
  exact ⟨_, _, _, l⟩
theorem with_tyc {K : PySem.W.Frag} {mg : Str → Option Value} {x : Str} {C : Addr} (_ : ClF K mg x C) {R : Prop} (d : TyC K C) (r : TyC K C → R) : R := r d
theorem kit_listC {K : PySem.W.Frag} {C : Addr} (t : TyC K C) : PySem.W.kitOne K (.type "list") (.ref C) = some false := by
  obtain ⟨od, cd, sl, l⟩ := t
  have s : PySem.W.subIn K (.type "list") (.ref C) = some false := by rfl
  have h1 : PySem.W.clsIn K C = some cd := by unfold PySem.W.clsIn; rw [l]
  have h2 : PySem.W.typeIn K (.ref C) = some (.type "type") := by
    show (K.lookup C).map _ = _
    rw [l]
    rfl
  have h3 : PySem.W.kitCls K (.type "list") (.ref C) = some false := by
    unfold PySem.W.kitCls
    dsimp only
    rw [h1, h2, s]
    rfl
  unfold PySem.W.kitOne
  rw [h3]
  rfl
/-- isinstance of an object of an own class, or of a list -/
theorem call_isCL (c : C8.InsC X.K C) (t : TyC X.K C) : CallR X (.builtin "isinstance") (fun xs H Q => (∃ a dx fs, xs = [.ref a, .ref C] ∧ H a = some (.ins C dx fs) ∧ Q (.bl true) H) ∨ ∃ a ys, xs = [.ref a, .ref C] ∧ H a = some (.lst ys) ∧ Q (.bl false) H) := by
  intro pins s σ H xs us Q I r h
  rcases h with h | ⟨a, ys, rfl, ha, q⟩
  · exact C8.call_isC c pins s σ H xs us Q I r h
  · exact call_isi pins s σ H _ us Q I r ⟨.ref a, .ref C, .type "list", .ref C, false, rfl, .own C, .base (.lst ha), kit_listC t, q⟩
end
end CK

set_option Elab.async false
set_option linter.all false
set_option maxRecDepth 100000
/-! (instance, number) == (instance, number): tuples whose instances are equal by their own == -/
namespace CK
open PySem PySem.Spec PyProof.Rows L2
section
variable {X : Cx} {k j : Nat} {C : Addr} {sp : Sp} {R : Addr → Addr → Hp → Prop}
/-- two of the class that R tells equal, or two equal flat values -/
abbrev DPart (C : Addr) (R : Addr → Addr → Hp → Prop) : Eqv := fun x y H => DIns C R x y H ∨ DFlat x y H
theorem op_eqTO (c : C8.Met X.prog X.w X.K X.mg X.base k C "__eq__" sp []) (hR : ∀ a b H H', Ext H H' → R a b H → R a b H') (hs : ∀ vs H Q E, spEq R vs H Q E → sp vs H Q E) (hr : Room j X.A) (hk : k + 1 ≤ j) : OpR X (compareOp .Eq) (rEqG (DTup X.K (DPart C R))) := by
  obtain ⟨f, fd, ps, ds, hc, hm, F, bnd, d⟩ := c.ex
  cases d
  have e1 : EqG X k (DIns C R) := eqG_ins (F.imp hs) hm.at_ hm.fn bnd (C8.pass0 (E := C8.E0))
  exact op_eqG (rcG_tup (Mon.or (mon_ins hR) mon_flat) (e1.or (eqG_flat.mono (Nat.zero_le _)))) (hr.mono hk)
end
end CK

set_option Elab.async false
set_option linter.all false
set_option maxRecDepth 100000
/-! lists of instances: == by their own ==; != of two lists of the same objects -/
namespace CK
open PySem PySem.Spec PyProof.Rows L2
section
variable {X : Cx} {k j : Nat} {C : Addr} {sp : Sp} {R : Addr → Addr → Hp → Prop}
theorem op_eqLO (c : C8.Met X.prog X.w X.K X.mg X.base k C "__eq__" sp []) (hR : ∀ a b H H', Ext H H' → R a b H → R a b H') (hs : ∀ vs H Q E, spEq R vs H Q E → sp vs H Q E) (hr : Room j X.A) (hk : k + 1 ≤ j) : OpR X (compareOp .Eq) (rEqG (DList (DIns C R))) := by
  obtain ⟨f, fd, ps, ds, hc, hm, F, bnd, d⟩ := c.ex
  cases d
  have e1 : EqG X k (DIns C R) := eqG_ins (F.imp hs) hm.at_ hm.fn bnd (C8.pass0 (E := C8.E0))
  exact op_eqG (rcG_list (mon_ins hR) e1) (hr.mono hk)
theorem refs_its : ∀ {as : List Addr} {us : List Value}, Vals (as.map V.ref) us → us = as.map Value.ref
  | [], _, r => by cases r; rfl
  | a :: as, _, r => by
    cases r with
    | cons h t =>
      rw [refs_its t]
      have h : _ = Value.ref a := h
      rw [h]
      rfl
theorem op_neRefs (hu : X.A.units < cLine) : OpR X (compareOp .NotEq) (fun x y H Q => ∃ (a b : Addr) (as : List Addr), x = .ref a ∧ y = .ref b ∧ H a = some (.lst (as.map V.ref)) ∧ H b = some (.lst (as.map V.ref)) ∧ Q (.bl false) H) := by
  intro pins s σ H x y v u Q I rx ry h
  obtain ⟨a, b, as, rfl, rfl, ha, hb, q⟩ := h
  cases rx
  cases ry
  obtain ⟨its, r1, l1, _⟩ := I.list (.inl (.inl ha))
  obtain ⟨its2, r2, l2, _⟩ := I.list (.inl (.inl hb))
  rw [refs_its r1] at l1
  rw [refs_its r2] at l2
  show wpAny (model X.prog X.w) X.A (richCompare .NotEq (.ref a) (.ref b)) (EP X pins σ Q) X.xe s
  refine SeqAt.RcNeAt.lists (e := fun _ => true) l1.isList l2.isList rfl hu (fun j h1 h2 => SeqAt.EqAt.same _) X.prog X.w _ _ ?_
  have e : (!(List.range (as.map Value.ref).toArray.size).all fun _ => true) = false := by simp
  rw [e]
  exact ⟨.bl false, H, I, rfl, q⟩
/-- xs == [], whatever the items are -/
theorem op_eqNil (hu : X.A.units < cLine) : OpR X (compareOp .Eq) (fun x y H Q => ∃ (a b : Addr) (xs : List V), x = .ref a ∧ y = .ref b ∧ H a = some (.lst xs) ∧ H b = some (.lst []) ∧ Q (.bl (decide (xs = []))) H) := by
  intro pins s σ H x y v u Q I rx ry h
  obtain ⟨a, b, xs, rfl, rfl, ha, hb, q⟩ := h
  cases rx
  cases ry
  obtain ⟨its, r1, l1, _⟩ := I.list (.inl (.inl ha))
  obtain ⟨its2, r2, l2, _⟩ := I.list (.inl (.inl hb))
  have n2 : its2 = [] := List.length_eq_zero_iff.mp (by rw [← r2.length]; rfl)
  subst n2
  show wpAny (model X.prog X.w) X.A (richCompare .Eq (.ref a) (.ref b)) (EP X pins σ Q) X.xe s
  cases xs with
  | nil =>
    have n1 : its = [] := List.length_eq_zero_iff.mp (by rw [← r1.length]; rfl)
    subst n1
    refine SeqAt.RcAt.lists (e := fun _ => true) l1.isList l2.isList rfl hu (fun j h1 h2 => absurd h1 (by simp)) X.prog X.w _ _ ?_
    exact ⟨.bl true, H, I, rfl, q⟩
  | cons x xs =>
    have n1 : its.length = xs.length + 1 := by rw [← r1.length]; rfl
    refine SeqAt.RcAt.lists_lengths l1.isList l2.isList (by simp [n1]) hu X.prog X.w _ _ ?_
    exact ⟨.bl false, H, I, rfl, q⟩
end
end CK

set_option linter.all false
namespace CK
open PySem PySem.Spec PyProof.Rows L2
/-- != of data within a comprehension -/
theorem op_neDK {X : Cx} {K : PySem.W.Frag} (hK : X.K = K) (hu : X.A.units + 64 < cLine) : OpR X (compareOp .NotEq) (rNeD K) := by
  subst hK
  exact op_neD hu
end CK

set_option Elab.async false
set_option linter.all false
set_option maxRecDepth 100000
set_option maxHeartbeats 2000000
/-! values of any kind, by their data -/
namespace CK
open PySem PySem.Spec PyProof.Rows L2
section
variable {K : PySem.W.Frag} {H H' : Hp}
theorem sqL_same {a : Addr} {xs : List V} (s : Same H H') : SqL K H a xs → SqL K H' a xs
  | .inl (.inl e) => .inl (.inl (s _ _ e))
  | .inl (.inr ⟨o, e⟩) => .inl (.inr ⟨o, s _ _ e⟩)
  | .inr h => .inr h
theorem sqT_same {a : Addr} {xs : List V} (s : Same H H') : SqT K H a xs → SqT K H' a xs
  | .inl (.inl e) => .inl (.inl (s _ _ e))
  | .inl (.inr ⟨o, e⟩) => .inl (.inr ⟨o, s _ _ e⟩)
  | .inr h => .inr h
mutual
theorem dp_same (s : Same H H') : ∀ (d : PyData) (v : V), Dp K H v d → Dp K H' v d
  | .none, _, h => by cases h; exact .non
  | .bool b, _, h => by cases h; exact .bl b
  | .int i, _, h => by cases h; exact .int i
  | .str x, _, h => by cases h; exact .str x
  | .list ds, _, h => by cases h with | lst a b => exact .lst (sqL_same s a) (dpAll_same s ds _ b)
  | .tuple ds, _, h => by cases h with | tup a b => exact .tup (sqT_same s a) (dpAll_same s ds _ b)
  | .dict es, _, h => by cases h
theorem dpAll_same (s : Same H H') : ∀ (ds : List PyData) (vs : List V), DpAll K H vs ds → DpAll K H' vs ds
  | [], _, h => by cases h; exact .nil
  | d :: ds, _, h => by cases h with | cons a b => exact .cons (dp_same s d _ a) (dpAll_same s ds _ b)
end
theorem dpAll_len : ∀ {vs : List V} {ds : List PyData}, DpAll K H vs ds → vs.length = ds.length
  | _, _, .nil => rfl
  | _, _, .cons _ t => congrArg (· + 1) (dpAll_len t)
theorem dpAll_get : ∀ {vs : List V} {ds : List PyData} {i : Nat} {v : V}, DpAll K H vs ds → vs[i]? = some v → ∃ d, ds[i]? = some d ∧ Dp K H v d
  | _, _, 0, _, .cons a _, e => ⟨_, rfl, by cases e; exact a⟩
  | _, _, i + 1, _, .cons _ t, e => dpAll_get (i := i) t (by simpa using e)
end
/-- the built-in type of a value -/
def kindD : PyData → String
  | .none => "NoneType"
  | .bool _ => "bool"
  | .int _ => "int"
  | .str _ => "str"
  | .list _ => "list"
  | .tuple _ => "tuple"
  | .dict _ => "dict"
theorem tyX_dp {K : PySem.W.Frag} {H : Hp} {v : V} {d : PyData} (h : Dp K H v d) : TyX K H v (.type (kindD d)) := by
  cases h with
  | non => exact .base .non
  | bl b => exact .base (.bl b)
  | int i => exact .base (.int i)
  | str x => exact .base (.str x)
  | lst a _ =>
    rcases a with (e | ⟨o, e⟩) | ⟨o, its, n, e, c, _⟩
    · exact .base (.lst e)
    · exact .base (.frz e)
    · exact .kList e c
  | tup a _ =>
    rcases a with (e | ⟨o, e⟩) | ⟨o, its, n, e, c, _⟩
    · exact .base (.tup e)
    · exact .fTuple e
    · exact .kTuple e c
section
variable {X : Cx}
/-- isinstance of data -/
theorem call_isD : CallR X (.builtin "isinstance") (fun xs H Q => ∃ (v : V) (d : PyData) (T : String) (b : Bool), xs = [v, .ty T] ∧ Dp X.K H v d ∧ kitB (kindD d) T = some b ∧ Q (.bl b) H) := by
  intro pins s σ H xs us Q I r h
  obtain ⟨v, d, T, b, rfl, k, e, q⟩ := h
  exact call_isi pins s σ H _ us Q I r ⟨v, .ty T, _, _, b, rfl, .ty T, tyX_dp k, kit_ty e, q⟩
end
def isInt : PyData → Bool
  | .int _ => true
  | _ => false
def isBool : PyData → Bool
  | .bool _ => true
  | _ => false
def isLd : PyData → Bool
  | .list _ => true
  | _ => false
def isTd : PyData → Bool
  | .tuple _ => true
  | _ => false
def isSd : PyData → Bool
  | .str _ => true
  | _ => false
theorem kitd_int : ∀ d : PyData, kitB (kindD d) "int" = some (isInt d || isBool d)
  | .none => (by decide +kernel : kitB "NoneType" "int" = some false)
  | .bool _ => (by decide +kernel : kitB "bool" "int" = some true)
  | .int _ => (by decide +kernel : kitB "int" "int" = some true)
  | .str _ => (by decide +kernel : kitB "str" "int" = some false)
  | .list _ => (by decide +kernel : kitB "list" "int" = some false)
  | .tuple _ => (by decide +kernel : kitB "tuple" "int" = some false)
  | .dict _ => (by decide +kernel : kitB "dict" "int" = some false)
theorem kitd_bool : ∀ d : PyData, kitB (kindD d) "bool" = some (isBool d)
  | .none => (by decide +kernel : kitB "NoneType" "bool" = some false)
  | .bool _ => (by decide +kernel : kitB "bool" "bool" = some true)
  | .int _ => (by decide +kernel : kitB "int" "bool" = some false)
  | .str _ => (by decide +kernel : kitB "str" "bool" = some false)
  | .list _ => (by decide +kernel : kitB "list" "bool" = some false)
  | .tuple _ => (by decide +kernel : kitB "tuple" "bool" = some false)
  | .dict _ => (by decide +kernel : kitB "dict" "bool" = some false)
theorem kitd_list : ∀ d : PyData, kitB (kindD d) "list" = some (isLd d)
  | .none => (by decide +kernel : kitB "NoneType" "list" = some false)
  | .bool _ => (by decide +kernel : kitB "bool" "list" = some false)
  | .int _ => (by decide +kernel : kitB "int" "list" = some false)
  | .str _ => (by decide +kernel : kitB "str" "list" = some false)
  | .list _ => (by decide +kernel : kitB "list" "list" = some true)
  | .tuple _ => (by decide +kernel : kitB "tuple" "list" = some false)
  | .dict _ => (by decide +kernel : kitB "dict" "list" = some false)
theorem kitd_tuple : ∀ d : PyData, kitB (kindD d) "tuple" = some (isTd d)
  | .none => (by decide +kernel : kitB "NoneType" "tuple" = some false)
  | .bool _ => (by decide +kernel : kitB "bool" "tuple" = some false)
  | .int _ => (by decide +kernel : kitB "int" "tuple" = some false)
  | .str _ => (by decide +kernel : kitB "str" "tuple" = some false)
  | .list _ => (by decide +kernel : kitB "list" "tuple" = some false)
  | .tuple _ => (by decide +kernel : kitB "tuple" "tuple" = some true)
  | .dict _ => (by decide +kernel : kitB "dict" "tuple" = some false)
theorem kitd_str : ∀ d : PyData, kitB (kindD d) "str" = some (isSd d)
  | .none => (by decide +kernel : kitB "NoneType" "str" = some false)
  | .bool _ => (by decide +kernel : kitB "bool" "str" = some false)
  | .int _ => (by decide +kernel : kitB "int" "str" = some false)
  | .str _ => (by decide +kernel : kitB "str" "str" = some true)
  | .list _ => (by decide +kernel : kitB "list" "str" = some false)
  | .tuple _ => (by decide +kernel : kitB "tuple" "str" = some false)
  | .dict _ => (by decide +kernel : kitB "dict" "str" = some false)
theorem isInt_of {d : PyData} (h : isInt d = true) : ∃ i, d = .int i := by
  cases d with
  | int i => exact ⟨i, rfl⟩
  | _ => exact absurd h Bool.false_ne_true
/-- a comprehension that maps the items of a list -/
theorem lcS_map {K : PySem.W.Frag} {a : Addr} {xs : List V} {j : Nat} {te : TE} {vs : List Nat} {σ : L2.St} {H1 : Hp} {D : Addr} {Qd : Hp → Prop} (f : Nat → V) (ha : SqL K H1 a xs) (hn : xs.length < sizeLine)
    (hs : ∀ (i : Nat) (x : V) (H : Hp) (R : VK), xs[i]? = some x → Same H1 H → (∀ H', Same H H' → R (f i) H') → wipe ((wipe σ vs).set j (some x)) vs = wipe σ vs ∧ te ((wipe σ vs).set j (some x)) H R)
    (hD : H1 D = none) (hd : ∀ H : Hp, Same H1 H → H D = some (.lst ((List.range xs.length).map f)) → Qd H) :
    ∃ W : Nat → Nat → Hp → Prop, (∃ m, W 0 m (upd H1 D (.lst []))) ∧ ∀ i m H, W i m H →
      ((Itl K a).stop i H ∧ Qd H) ∨ ((Itl K a).go i H ∧ ∃ Nx : Hp → Prop, (∀ H', Nx H' → ∃ m', m' < m ∧ W (i + 1) m' H') ∧ ∀ x H', (Itl K a).yld i H x H' → gName j x (wipe σ vs) H' fun σ2 H2 => wipe σ2 vs = wipe σ vs ∧ tYes σ2 H2 fun b H3 =>
        if b = true then te σ2 H3 fun y H4 => ∃ acc, H4 D = some (.lst acc) ∧ acc.length < sizeLine ∧ Nx (upd H4 D (.lst (acc ++ [y]))) else Nx H3) := by
  refine lc_mapW (walk_list (K := K) (a := a) (xs := xs)) f hn (fun H s => sqL_same s ha) (fun i x H H' R hi s y q => ?_) hD hd
  obtain ⟨rfl, hx⟩ := y
  exact hs i x H' R hx s q
/-! what repr asks of data -/
mutual
def okD : PyData → Bool
  | .none | .bool _ => true
  | .int i => decide (i.natAbs < 2 ^ 1900)
  | .str x => x.cps.toList.all fun c => decide (c < 16 ^ 8)
  | .list xs | .tuple xs => okDs xs
  | .dict _ => false
def okDs : List PyData → Bool
  | [] => true
  | x :: xs => okD x && okDs xs
end
mutual
def bndD : PyData → Nat
  | .none | .bool _ => 8
  | .int _ => 1923
  | .str x => 10 * x.length + 2
  | .list xs | .tuple xs => bndDs xs + 3
  | .dict _ => 0
def bndDs : List PyData → Nat
  | [] => 0
  | x :: xs => bndD x + 2 + bndDs xs
end
theorem shownAll_len : ∀ xs : List PyData, (PyData.shownAll xs).length = xs.length
  | [] => by simp [PyData.shownAll]
  | x :: xs => by rw [PyData.shownAll, List.length_cons, List.length_cons, shownAll_len xs]
mutual
theorem fine0 : ∀ d : PyData, okD d = true → d.showable = true ∧ d.hasDict = false ∧ d.shown.length ≤ bndD d
  | .none, _ => by decide +kernel
  | .bool true, _ => by decide +kernel
  | .bool false, _ => by decide +kernel
  | .int i, h => by
    have hl := log_lt (of_decide_eq_true h)
    have a1 := int_text_length_le (a := i) (k := 1920) (by omega) hl
    have a3 : ((toString i : Str)).length = (toString i).length := PySem.ofString_length _
    have e : PyData.shown (.int i) = (toString i : Str) := by simp only [PyData.shown]
    refine ⟨by simp [PyData.showable, hl], by simp [PyData.hasDict], ?_⟩
    rw [e, bndD]
    omega
  | .str x, h => by
    refine ⟨by simp [PyData.showable], by simp [PyData.hasDict], ?_⟩
    rw [PyData.shown, bndD]
    refine StrLaws.reprText_len _ fun c hc => ?_
    have := List.all_eq_true.mp h c (by simpa using hc)
    simpa using this
  | .list xs, h => by
    obtain ⟨a1, a2, a3⟩ := fine1 xs h
    refine ⟨by rw [PyData.showable, a1], by rw [PyData.hasDict, a2], ?_⟩
    rw [PyData.shown, bndD]
    have := listText_len_le (PyData.shownAll xs)
    rw [shownAll_len] at this
    omega
  | .tuple xs, h => by
    obtain ⟨a1, a2, a3⟩ := fine1 xs h
    refine ⟨by rw [PyData.showable, a1], by rw [PyData.hasDict, a2], ?_⟩
    rw [PyData.shown, bndD]
    have := tupleText_len_le (PyData.shownAll xs)
    rw [shownAll_len] at this
    omega
  | .dict kvs, h => absurd h Bool.false_ne_true
theorem fine1 : ∀ xs : List PyData, okDs xs = true → PyData.showableAll xs = true ∧ PyData.hasDictAll xs = false ∧ ((PyData.shownAll xs).map (·.length)).sum + 2 * xs.length ≤ bndDs xs
  | [], _ => by decide +kernel
  | x :: xs, h => by
    have h' : (okD x && okDs xs) = true := h
    obtain ⟨h1, h2⟩ := Bool.and_eq_true_iff.mp h'
    obtain ⟨a1, a2, a3⟩ := fine0 x h1
    obtain ⟨b1, b2, b3⟩ := fine1 xs h2
    refine ⟨by rw [PyData.showableAll, a1, b1]; rfl, by rw [PyData.hasDictAll, a2, b2]; rfl, ?_⟩
    rw [PyData.shownAll, List.map_cons, List.sum_cons, List.length_cons, bndDs]
    omega
end
/-- data that repr takes -/
def Fine (d : PyData) : Prop := d.showable = true ∧ d.hasDict = false ∧ d.depth ≤ 60 ∧ d.shown.length ≤ sizeLine
theorem fine_of {d : PyData} (h : okD d = true) (hd : d.depth ≤ 60) (hb : bndD d ≤ 16000000) : Fine d := by
  obtain ⟨a, b, c⟩ := fine0 d h
  exact ⟨a, b, hd, by rw [sizeLine_eq]; omega⟩
section
variable {X : Cx} {j : Nat}
/-- repr of fine data -/
theorem call_reprF (hr : Room j X.A) (gd : X.A.guards = some []) : CallR X (.builtin "repr") (fun xs H Q => ∃ (v : V) (d : PyData), xs = [v] ∧ Dp X.K H v d ∧ Fine d ∧ Q (.str d.shown) H) := by
  intro pins s σ H xs us Q I r h
  obtain ⟨v, d, rfl, dp, ⟨a, b, c, e⟩, q⟩ := h
  exact call_repr hr gd pins s σ H _ us Q I r ⟨v, d, rfl, dp, a, b, c, e, q⟩
end
end CK

set_option Elab.async false
set_option linter.all false
set_option maxRecDepth 100000
set_option maxHeartbeats 4000000
set_option exponentiation.threshold 3000
namespace K61
open PySem PySem.Spec PyProof.Rows L2 CK SX NM PySem.W
open LP (Pc leL leR leStep c1 StepOk opts Best cost Okp spell IsW)
/-! ### the order of ranks -/
abbrev PcS := Str × Int
def pS (p : Pc) : PcS := (S p.1, (p.2 : Int))
theorem pS_inj {p q : Pc} (h : pS p = pS q) : p = q := by
  have h1 := congrArg Prod.fst h
  have h2 := congrArg Prod.snd h
  refine Prod.ext (S_inj h1) ?_
  have h2 : (p.2 : Int) = (q.2 : Int) := h2
  omega
theorem lt_pS (p q : Pc) : DatumOrd.lt (pS p) (pS q) = true ↔ LP.ltP p q := by
  show (if S p.1 = S q.1 then decide ((p.2 : Int) < (q.2 : Int)) else decide ((S p.1).cps.toList < (S q.1).cps.toList)) = true ↔ _
  by_cases e : p.1 = q.1
  · rw [if_pos (by rw [e]), decide_eq_true_iff]
    constructor
    · exact fun h => .inr ⟨e, by omega⟩
    · rintro (h | ⟨_, h⟩)
      · rw [e] at h; exact absurd h (List.lt_irrefl _)
      · omega
  · rw [if_neg (fun h => e (S_inj h)), decide_eq_true_iff]
    show p.1 < q.1 ↔ _
    exact ⟨.inl, fun h => h.elim id fun h => absurd h.1 e⟩
theorem listLt_no : ∀ V W : List Pc, listLt (V.map pS) (W.map pS) = false ↔ leL W V
  | [], [] => by simp [listLt, leL]
  | [], w :: W => by simp [listLt, leL]
  | v :: V, [] => by simp [listLt, leL]
  | v :: V, w :: W => by
    have ih := listLt_no V W
    rw [List.map_cons, List.map_cons, listLt, leL]
    by_cases e : v = w
    · rw [if_pos (by rw [e]), ih]
      subst e
      exact ⟨fun h => .inr ⟨rfl, h⟩, fun h => h.elim (fun h => absurd h (LP.ltP_irrefl _)) fun h => h.2⟩
    · rw [if_neg (fun h => e (pS_inj h)), Bool.eq_false_iff, ne_eq, lt_pS]
      constructor
      · intro h
        rcases LP.ltP_total v w with g | g | g
        · exact absurd g h
        · exact absurd g e
        · exact .inl g
      · rintro (h | ⟨h, _⟩) g
        · exact LP.ltP_irrefl _ (LP.ltP_trans h g)
        · exact e h.symm
def rT (a s : Nat) (W : List Pc) : T3 Int Int (List PcS) := ⟨(cost a s W : Nat), (W.length : Nat), W.map pS⟩
theorem rT_lt {a s : Nat} {V W : List Pc} : DatumOrd.lt (rT a s V) (rT a s W) = false ↔ leR a s W V := by
  show (if ((cost a s V : Nat) : Int) = ((cost a s W : Nat) : Int) then (if ((V.length : Nat) : Int) = ((W.length : Nat) : Int) then listLt (V.map pS) (W.map pS) else decide (((V.length : Nat) : Int) < ((W.length : Nat) : Int))) else decide (((cost a s V : Nat) : Int) < ((cost a s W : Nat) : Int))) = false ↔ _
  unfold leR
  by_cases e1 : cost a s V = cost a s W
  · rw [if_pos (by rw [e1])]
    by_cases e2 : V.length = W.length
    · rw [if_pos (by rw [e2]), listLt_no]
      exact ⟨fun h => .inr ⟨e1.symm, .inr ⟨e2.symm, h⟩⟩, fun h => by
        rcases h with h | ⟨_, h | ⟨_, h⟩⟩
        · omega
        · omega
        · exact h⟩
    · rw [if_neg (by omega), decide_eq_false_iff_not]
      constructor
      · exact fun h => .inr ⟨e1.symm, .inl (by omega)⟩
      · rintro (h | ⟨_, h | ⟨h, _⟩⟩) <;> omega
  · rw [if_neg (by omega), decide_eq_false_iff_not]
    constructor
    · exact fun h => .inl (by omega)
    · rintro (h | ⟨h, _⟩) <;> omega
theorem rT_inj {a s : Nat} {V W : List Pc} (h : rT a s V = rT a s W) : V = W := by
  have h3 : V.map pS = W.map pS := congrArg T3.c h
  induction V generalizing W with
  | nil => cases W with
    | nil => rfl
    | cons w W => cases h3
  | cons v V ih =>
    cases W with
    | nil => cases h3
    | cons w W =>
      obtain ⟨g1, g2⟩ := List.cons.inj h3
      have e1 := pS_inj g1
      subst e1
      have : V = W := by
        have key : ∀ A B : List Pc, A.map pS = B.map pS → A = B := fun A => by
          induction A with
          | nil => intro B h; cases B with
            | nil => rfl
            | cons b B => cases h
          | cons a A ih => intro B h; cases B with
            | nil => cases h
            | cons b B =>
              obtain ⟨x1, x2⟩ := List.cons.inj h
              rw [pS_inj x1, ih B x2]
        exact key V W g2
      rw [this]
def dRk (a s : Nat) (W : List Pc) : PyData := .tuple [.int (cost a s W : Nat), .int (W.length : Nat), .list (W.map dWp)]
theorem dRk_eq (a s : Nat) (W : List Pc) : dRk a s W = Datum.toD (rT a s W) := by
  show _ = PyData.tuple [.int _, .int _, .list ((W.map pS).map Datum.toD)]
  rw [List.map_map]
  rfl
theorem RnkV.dp {K : PySem.W.Frag} {H : Hp} {v : V} {a s : Nat} {l : Addr} {W : List Pc} (h : RnkV H v a s l W) : Dp K H v (dRk a s W) := by
  obtain ⟨t, rfl, h1, h2⟩ := h
  exact .tup (.inl (.inl h1)) (.cons (.int _) (.cons (.int _) (.cons h2.dp .nil)))
theorem RnkV.same {H H' : Hp} {v : V} {a s : Nat} {l : Addr} {W : List Pc} (h : RnkV H v a s l W) (g : Same H H') : RnkV H' v a s l W := by
  obtain ⟨t, e, h1, h2⟩ := h
  exact ⟨t, e, g _ _ h1, h2.same g⟩
theorem depth_dRk (a s : Nat) (W : List Pc) : (dRk a s W).depth ≤ 3 := by
  have := deep_W W
  unfold dRk
  simp only [PyData.depth, PyData.depthAll]
  omega
/-- the best is not greater -/
theorem gt_no {K : PySem.W.Frag} {H : Hp} {v u : V} {a s : Nat} {l k : Addr} {W V : List Pc} {Q : VK} (h1 : RnkV H v a s l W) (h2 : RnkV H u a s k V) (le : leR a s W V) (q : Q (.bl false) H) : rGtD K v u H Q := by
  refine ⟨dRk a s W, dRk a s V, h1.dp, h2.dp, ?_, ?_, Nat.le_trans (depth_dRk _ _ _) (by decide), ?_⟩
  · rw [dRk_eq, dRk_eq]
    exact DatumOrd.alike _ _
  · unfold dRk
    exact fun e => by cases e
  · rw [dRk_eq, dRk_eq, DatumOrd.lt_eq, rT_lt.mpr le]
    exact q
def dTd (a s : Nat) (W : List Pc) : PyData := .tuple [.int (cost a s W : Nat), .list (W.map dWp)]
theorem ToldV.dp {K : PySem.W.Frag} {H : Hp} {v : V} {a s : Nat} {l : Addr} {W : List Pc} (h : ToldV H a s v l W) : Dp K H v (dTd a s W) := by
  obtain ⟨t, vs, rfl, h1, h2, h3⟩ := h
  exact .tup (.inl (.inl h1)) (.cons (.int _) (.cons (WrL.dp ⟨vs, h2, h3⟩) .nil))
theorem ok_W : ∀ W : List Pc, LowW W → (∀ p ∈ W, p.2 ≤ 300) → okDs (W.map dWp) = true
  | [], _, _ => rfl
  | p :: r, h, g => by
    have e : okD (dWp p) = true := by
      show (okD (.str (S p.1)) && (okD (.int (p.2 : Nat)) && true)) = true
      rw [Bool.and_eq_true_iff, Bool.and_eq_true_iff]
      refine ⟨?_, ?_, rfl⟩
      · show (S p.1).cps.toList.all _ = true
        rw [List.all_eq_true]
        exact fun c hc => decide_eq_true (by have := (h p List.mem_cons_self c hc).2; omega)
      · exact decide_eq_true (by rw [Int.natAbs_natCast]; exact Nat.lt_of_le_of_lt (g p List.mem_cons_self) (by decide +kernel))
    rw [List.map_cons, okDs, ok_W r (fun q hq => h q (List.mem_cons_of_mem _ hq)) (fun q hq => g q (List.mem_cons_of_mem _ hq)), e]
    rfl
theorem bnd_W : ∀ W : List Pc, (∀ p ∈ W, p.1.length ≤ 300) → bndDs (W.map dWp) ≤ 5000 * W.length
  | [], _ => Nat.le_refl _
  | p :: r, h => by
    have ih := bnd_W r fun q hq => h q (List.mem_cons_of_mem _ hq)
    have e : bndD (dWp p) ≤ 4990 := by
      have := h p List.mem_cons_self
      show (10 * (S p.1).length + 2) + 2 + (1923 + 2 + 0) + 3 ≤ _
      rw [S_len]
      omega
    rw [List.map_cons, bndDs, List.length_cons]
    omega
theorem fine_T {a s : Nat} {W : List Pc} (lw : LowW W) (wb : Wb W) (ca : cost a s W < 2 ^ 1000) : Fine (dTd a s W) := by
  obtain ⟨b1, b2⟩ := len_spell wb.1
  have l3 := wb.2
  have hi := fun p hp => in_spell (p := p) wb.1 hp
  refine fine_of ?_ ?_ ?_
  · show (okD (.int (cost a s W : Nat)) && (okDs (W.map dWp) && true)) = true
    rw [ok_W W lw fun p hp => by have := (hi p hp).2; omega, Bool.and_true, Bool.and_true]
    exact decide_eq_true (by rw [Int.natAbs_natCast]; exact Nat.lt_of_lt_of_le ca (Nat.pow_le_pow_right (by decide) (by decide)))
  · have := deep_W W
    unfold dTd
    simp only [PyData.depth, PyData.depthAll]
    omega
  · have := bnd_W W fun p hp => by have := (hi p hp).1; omega
    show 1923 + 2 + ((bndDs (W.map dWp) + 3) + 2 + 0) + 3 ≤ _
    omega
theorem cost_lt {a s : Nat} {W : List Pc} (wb : Wb W) (ha : a < 2 ^ 100) (hs : s < 2 ^ 101) : cost a s W < 2 ^ 1000 := by
  obtain ⟨b1, b2⟩ := len_spell wb.1
  have lp : (powW W).length ≤ W.length := List.length_filter_le _ _
  rw [cost_eq a s W fun p hp => (wb.1 p hp).2]
  have h1 : lenW W * a ≤ 300 * 2 ^ 100 := Nat.mul_le_mul (by have := wb.2; omega) (Nat.le_of_lt ha)
  have h2 : (powW W).length * s ≤ 300 * 2 ^ 101 := Nat.mul_le_mul (by have := wb.2; omega) (Nat.le_of_lt hs)
  exact Nat.lt_of_le_of_lt (Nat.add_le_add h1 h2) (by decide +kernel)
section
variable {P : Program} {w : World} {K : PySem.W.Frag} {mg : Str → Option Value} {base : Heap} {C : Addr}
def sp_long (C : Addr) : Sp := fun vs H Q _ => ∃ (F pr wl : Addr) (z : List Nat) (V : List Pc) (a b c d : Nat), vs = [.ref F, .ref pr, .str (S z), .ref wl] ∧ FourL H F a b c d ∧ PrB C H pr a b c d ∧ WrL H wl V ∧ IsW z V ∧ Low z ∧ z.length ≤ 200 ∧ ∀ H', Same H H' → Q (.bl true) H'
theorem c_law_long_right (T : Txt K mg C) : CalG P w K mg base 10 "_law_long_right" (sp_long C) := by
  refine calG T.d_law_long_right sc_law_long_right (fun vs H Q E h => ?_) (fun f0 cdv A outer s0 H vs Q E hr gd h => ?_)
  · obtain ⟨_, _, _, _, _, _, _, _, _, rfl, _⟩ := h; rfl
  · obtain ⟨F, pr, wl, z, V, a, b, c, d, rfl, fl, pb, wv, iw, low, zl, q⟩ := h
    refine ⟨_, (pss_cons (ps_set (i := 4) sc_law_long_right.nd rfl (Or.inl rfl) (C8.pe_c (c_least_plain T) hr (by decide) (by rfl) (pa_cons (pv 2) (pa_cons (pv 1) pa_nil))))
    (pss_cons (ps_if (pt_not (pt_val (C8.pe_c (c_law_told_right T) hr (by decide) (by rfl) (pa_cons (pv 2) (pa_cons (pv 0) (pa_cons (pv 4) pa_nil))))))
    (pss_one (ps_ret pe_bl))
    pss_nil)
    (pss_cons (ps_set (i := 5) sc_law_long_right.nd rfl (Or.inl rfl) (C8.pe_c (c_law_rank T) hr (by decide) (by rfl) (pa_cons (pv 0) (pa_cons (pe_ix ix_tup (pv 4) pe_int (fun _ _ => rfl)) pa_nil))))
    (pss_cons (ps_if (PW.pt (pw_or (pt_cmpR (op_gtD hr.units) (pv 5) (C8.pe_c (c_law_rank T) hr (by decide) (by rfl) (pa_cons (pv 0) (pa_cons (pv 3) pa_nil))) (nomark _)) (pw_or1 (pt_cmpR (op_gtD hr.units) (pv 5) (C8.pe_c (c_law_rank T) hr (by decide) (by rfl) (pa_cons (pv 0) (pa_cons (pe_lc (own := [("_law_sign", 6)]) (by rfl) sc_law_long_right.nd (pi_str (pv 2)) (blkOk_by (N := ["_law_four_here", "_law_prices_here", "_law_word_here", "_law_writer", "_law_told", "_law_rank_here", "_law_sign", "_law_kept"]) (sc := C8.fnScope (topS 56)) (own := [("_law_sign", 6)]) (by decide +kernel)) (fun _ _ _ _ _ => (pg_name (i := 6) sc_law_long_right.nd rfl (Or.inl rfl))) (fun _ _ _ _ _ => pts_nil) (fun _ _ _ _ _ => (pe_tup (pa_cons (pv 6) (pa_cons pe_int pa_nil))))) pa_nil))) (nomark _)))))
    (pss_one (ps_ret pe_bl))
    pss_nil)
    (pss_cons (ps_if (PW.pt (pw_and (pt_cmpR op_ne (pv 2) pe_str (nomark _)) (pw_and1 (pt_cmpR (op_gtD hr.units) (pv 5) (C8.pe_c (c_law_rank T) hr (by decide) (by rfl) (pa_cons (pv 0) (pa_cons (pe_lst (pa_cons (pe_tup (pa_cons (pv 2) (pa_cons pe_int pa_nil))) pa_nil)) pa_nil))) (nomark _)))))
    (pss_one (ps_ret pe_bl))
    pss_nil)
    (pss_cons (ps_set (i := 7) sc_law_long_right.nd rfl (Or.inl rfl) (pe_callB (call_reprF hr gd) (by rfl) T.m_repr (by decide +kernel) (pa_cons (pv 4) pa_nil)))
    (pss_cons (ps_expr (pe_bm PySem.F.plainAttrs_list PySem.F.slot_list_append PySem.F.type_list_append mt_append (pe_ix ix_tup (pv 4) pe_int (fun _ _ => rfl)) (pa_cons pe_non pa_nil)))
    (pss_one (ps_ret (pe_cmpR op_eq (pe_callB (call_reprF hr gd) (by rfl) T.m_repr (by decide +kernel) (pa_cons (C8.pe_c (c_least_plain T) hr (by decide) (by rfl) (pa_cons (pv 2) (pa_cons (pv 1) pa_nil))) pa_nil)) (pv 7) (nomark _))))))))))), ?_⟩
    refine ⟨_, rfl, _, rfl, z, .ref pr, a, b, c, d, rfl, low, zl, .inr ⟨pr, rfl, pb⟩, fun r l H1 W s1 nl tv bst lw => ?_⟩
    dsimp only
    rw [gname_eq]
    have wb : Wb W := ⟨bst.1.2, by rw [bst.1.1]; omega⟩
    refine ⟨_, rfl, _, rfl, _, rfl, z, F, l, r, W, a, b, c, d, rfl, fl.same s1, tv, bst.1, zl, fun H2 s2 => ⟨true, rfl, iteF ?_⟩⟩
    have tv2 := tv.same s2
    obtain ⟨t, us, rfl, ht, hl, av⟩ := id tv2
    have fl2 := fl.same (s1.trans s2)
    refine ⟨_, rfl, _, rfl, t, _, 1, .ref l, rfl, rfl, .inl (.inl ht), rfl, F, l, W, a, b, c, d, rfl, fl2, ⟨us, hl, av⟩, wb, fun rv H3 s3 rk => ?_⟩
    dsimp only
    rw [gname_eq]
    have s13 := s1.trans (s2.trans s3)
    have wbV : Wb V := ⟨iw.2, by rw [iw.1]; omega⟩
    refine ⟨_, rfl, _, rfl, _, rfl, F, wl, V, a, b, c, d, rfl, fl.same s13, wv.same s13, wbV, fun rv2 H4 s4 rk2 => gt_no (rk.same s4) rk2 (bst.2 V iw) ⟨false, rfl, iteF ?_⟩⟩
    have s14 := s13.trans s4
    have isg := LP.isW_signs z
    have wbS : Wb (z.map fun c => ([c], 1)) := ⟨isg.2, by rw [isg.1]; omega⟩
    refine ⟨_, rfl, _, rfl, _, rfl, S z, rfl, fun D hD => ?_⟩
    have zc : (S z).cps.size = z.length := by
      show z.toArray.size = z.length
      simp
    refine lc_it walk_str (fun i HH => Same H4 HH ∧ ∃ ds, HH D = some (.lst ds) ∧ All2 (PrV HH) ds ((z.take i).map fun c => ([c], 1))) ⟨sameNew hD, [], upd_same, .nil⟩ (fun _ _ _ _ => True.intro) (fun i x HH HH' hi p yy => ?_) fun HH p => ?_
    · obtain ⟨s5, ds, hds, ad⟩ := p
      obtain ⟨rfl, ch, hch, rfl⟩ := yy
      have hz : z[i]? = some ch := by
        have : z.toArray[i]? = some ch := hch
        simpa using this
      have ld := ad.len
      rw [List.length_map, List.length_take] at ld
      refine ⟨rfl, yes_if ⟨_, rfl, by show 2 ≤ sizeLine; decide, fun u nu => ?_⟩⟩
      have su := sameNew (o := .tup [.str (S [ch]), .int (1 : Nat)]) nu
      have hu : PrV (upd HH' u (.tup [.str (S [ch]), .int (1 : Nat)])) (.ref u) ([ch], 1) := ⟨u, rfl, upd_same⟩
      have tu : TupS (upd HH' u (.tup [.str (S [ch]), .int (1 : Nat)])) (upd (upd HH' u (.tup [.str (S [ch]), .int (1 : Nat)])) D (.lst (ds ++ [.ref u]))) := tup_upd (su _ _ hds)
      refine ⟨ds, su _ _ hds, by rw [ld, sizeLine_eq]; omega, same_upd2 hD (s5.trans su), ds ++ [.ref u], upd_same, ?_⟩
      rw [List.take_succ, hz, List.map_append]
      exact ((ad.mono fun v x g => g.mono (TupS.of su)).mono fun v x g => g.mono tu).app (.cons (hu.mono tu) .nil)
    · obtain ⟨s5, ds, hds, ad⟩ := p
      rw [zc, List.take_length] at ad
      have s15 := s14.trans s5
      refine ⟨F, D, _, a, b, c, d, rfl, fl.same s15, ⟨ds, hds, ad⟩, wbS, fun rv3 H5 s6 rk3 => gt_no (rk.same (s4.trans (s5.trans s6))) rk3 (bst.2 _ isg) ⟨false, rfl, iteF ?_⟩⟩
      have s36 := s4.trans (s5.trans s6)
      have s16 := s15.trans s6
      rw [tnext_eq]
      dsimp only
      refine joinS (a := tIfS _ _ _) (fun σ' HX => σ' = [some (.ref F), some (.ref pr), some (.str (S z)), some (.ref wl), some (.ref t), some rv, none, none] ∧ Same H5 HX) (fun σ' HX p => ?_) fun U hU => ?_
      rotate_left
      · refine ⟨_, rfl, rfl, _, rfl, ?_⟩
        by_cases ze : z = []
        · rw [decide_eq_true (show L2.V.str (S z) = L2.V.str (Str.ofString "") by rw [ze, empty_S])]
          exact iteF (hU _ _ ⟨rfl, Same.refl _⟩)
        · rw [decide_eq_false (show ¬L2.V.str (S z) = L2.V.str (Str.ofString "") from fun e => ze (by rw [empty_S] at e; exact S_inj (L2.V.str.inj e)))]
          refine iteT ⟨_, rfl, _, rfl, _, rfl, by show 2 ≤ sizeLine; decide, fun u nu => ⟨by show 1 ≤ sizeLine; decide, fun D2 nD2 => ?_⟩⟩
          have iso := LP.isW_one ze
          have wbO : Wb [(z, 1)] := ⟨iso.2, by rw [iso.1]; omega⟩
          have su := sameNew (o := .tup [.str (S z), .int (1 : Nat)]) nu
          have sD2 := sameNew (o := .lst [.ref u]) nD2
          have s57 := su.trans sD2
          have wo : WrL (upd (upd H5 u (.tup [.str (S z), .int (1 : Nat)])) D2 (.lst [.ref u])) D2 [(z, 1)] := ⟨[.ref u], upd_same, .cons ⟨u, rfl, sD2 _ _ upd_same⟩ .nil⟩
          refine ⟨F, D2, _, a, b, c, d, rfl, fl.same (s16.trans s57), wo, wbO, fun rv4 H6 s7 rk4 => gt_no (rk.same (s36.trans (s57.trans s7))) rk4 (bst.2 _ iso) ⟨false, rfl, iteF (hU _ _ ⟨rfl, s57.trans s7⟩)⟩⟩
      · obtain ⟨rfl, sX⟩ := p
        have s2X := s3.trans (s36.trans sX)
        have sAll := s16.trans sX
        have tvX := tv2.same s2X
        have htX := s2X _ _ ht
        have hlX := s2X _ _ hl
        have fT : Fine (dTd a (b + d) W) := fine_T lw wb (cost_lt wb (Nat.lt_of_lt_of_le fl.2.2.1 (Nat.le_refl _)) (Nat.lt_of_lt_of_le (Nat.add_lt_add fl.2.2.2.1 fl.2.2.2.2.2) (by decide)))
        refine ⟨_, rfl, _, _, rfl, tvX.dp, fT, ?_⟩
        refine ⟨_, rfl, t, _, 1, .ref l, rfl, rfl, .inl (.inl htX), rfl, .inl ⟨rfl, _, .inl (.inl hlX)⟩, l, us, _, rfl, rfl, hlX, by rw [av.len, sizeLine_eq]; have := (len_spell wb.1).2; have := wb.2; omega, ?_⟩
        have sL : Same H (upd HX l (.lst (us ++ [.non]))) := same_upd2 nl sAll
        refine ⟨_, rfl, _, rfl, z, .ref pr, a, b, c, d, rfl, low, zl, .inr ⟨pr, rfl, pb.same sL⟩, fun r2 l2 H8 W2 s8 nl2 tv8 bst2 lw2 => ?_⟩
        have eW : W2 = W := LP.leR_anti (bst2.2 W bst.1) (bst.2 W2 bst2.1)
        subst eW
        refine ⟨_, _, rfl, tv8.dp, fT, _, rfl, rfl, ?_⟩
        rw [decide_eq_true rfl]
        exact q H8 (sL.trans s8)
end
end K61

set_option Elab.async false
set_option linter.all false
set_option maxRecDepth 100000
set_option maxHeartbeats 4000000
set_option exponentiation.threshold 3000
namespace K61
open PySem PySem.Spec PyProof.Rows L2 CK SX NM PySem.W
open LP (Pc leL leR leStep c1 StepOk opts Best cost Okp spell IsW)
theorem toD_rT_inj {a s : Nat} {V W : List Pc} (h : dRk a s V = dRk a s W) : V = W := by
  rw [dRk_eq, dRk_eq] at h
  have g := Datum.eqv (rT a s V) (rT a s W)
  have g2 := Datum.eqv (rT a s W) (rT a s W)
  rw [h, g2, decide_eq_true rfl] at g
  exact rT_inj (of_decide_eq_true g.symm)
theorem depth_Rks (a s : Nat) : ∀ Ws : List (List Pc), PyData.depthAll (Ws.map (dRk a s)) ≤ 3
  | [] => by simp [PyData.depthAll]
  | W :: r => by
    have := depth_Rks a s r
    have := depth_dRk a s W
    rw [List.map_cons, PyData.depthAll]
    omega
theorem min_rank {K : PySem.W.Frag} {H : Hp} {D : Addr} {rs : List L2.V} {Ws : List (List Pc)} {a s : Nat} {z : List Nat} {W : List Pc} {Q : VK} (hD : H D = some (.lst rs)) (av : All2 (fun v V => ∃ l, RnkV H v a s l V) rs Ws) (mW : ∀ V, V ∈ Ws ↔ IsW z V) (bst : Best a s z W) (q : ∀ v l, RnkV H v a s l W → Q v H) : rMinA K [.ref D] H Q := by
  have win := (mW W).mpr bst.1
  obtain ⟨V0, Vr, eW⟩ : ∃ V0 Vr, Ws = V0 :: Vr := by
    cases Ws with
    | nil => cases win
    | cons a b => exact ⟨a, b, rfl⟩
  have ds := av.dps (K := K) (d := dRk a s) fun v V ⟨l, g⟩ => g.dp
  have al : AlikeAll (Ws.map (dRk a s)) := by
    have := alikeAll_datum (Ws.map (rT a s))
    rw [List.map_map] at this
    rw [show (Ws.map (dRk a s)) = Ws.map (Datum.toD ∘ rT a s) from List.map_congr_left fun V _ => dRk_eq a s V]
    exact this
  have dp := depth_Rks a s Ws
  rw [eW, List.map_cons] at ds al dp
  refine ⟨D, rs, dRk a s V0, Vr.map (dRk a s), rfl, .inl (.inl hD), ds, al, Nat.le_trans dp (by decide), fun i v hv hm => ?_⟩
  obtain ⟨V, hV, l, rk⟩ := av.get hv
  rw [← List.map_cons, ← eW, List.getElem?_map, hV] at hm
  have hm := Option.some.inj hm
  have em : minD (dRk a s V0) (Vr.map (dRk a s)) = Datum.toD (minOf (rT a s V0) (Vr.map (rT a s))) := by
    have := minD_map (rT a s V0) (Vr.map (rT a s))
    rw [List.map_map] at this
    rw [← this, dRk_eq]
    congr 1
    exact List.map_congr_left fun V _ => dRk_eq a s V
  rw [em, dRk_eq] at hm
  have inj : rT a s V = minOf (rT a s V0) (Vr.map (rT a s)) := by
    have g := Datum.eqv (rT a s V) (minOf (rT a s V0) (Vr.map (rT a s)))
    have g2 := Datum.eqv (minOf (rT a s V0) (Vr.map (rT a s))) (minOf (rT a s V0) (Vr.map (rT a s)))
    rw [hm, g2, decide_eq_true rfl] at g
    exact of_decide_eq_true g.symm
  have le := minOf_le (rT a s V0) (Vr.map (rT a s)) (rT a s W) (by rw [← List.map_cons, ← eW]; exact List.mem_map_of_mem win)
  rw [← inj] at le
  have e : V = W := LP.leR_anti (rT_lt.mp le) (bst.2 V ((mW V).mp (List.mem_of_getElem? hV)))
  subst e
  exact q v l rk
theorem shaped_Rk {a s : Nat} {W : List Pc} (lw : LowW W) : SeqAt.shaped (dRk a s W) = true := by
  unfold SeqAt.shaped dRk
  have := deep_W W
  simp only [PyData.canLay0, PyData.canLayAll0, lay_W W lw, PyData.depth, PyData.depthAll]
  simp
  omega
theorem shaped_Td {a s : Nat} {W : List Pc} (lw : LowW W) : SeqAt.shaped (dTd a s W) = true := by
  unfold SeqAt.shaped dTd
  have := deep_W W
  simp only [PyData.canLay0, PyData.canLayAll0, lay_W W lw, PyData.depth, PyData.depthAll]
  simp
  omega
theorem RnkV.updD {H : Hp} {v : L2.V} {a s : Nat} {l D : Addr} {W : List Pc} {xs ys : List L2.V} (h : RnkV H v a s l W) (ne : l ≠ D) (hD : H D = some (.lst xs)) : RnkV (upd H D (.lst ys)) v a s l W := by
  obtain ⟨t, e, h1, vs, h2, h3⟩ := h
  have tu : TupS H (upd H D (.lst ys)) := tup_upd hD
  exact ⟨t, e, tu _ _ h1, vs, by rw [upd_ne ne]; exact h2, h3.mono fun v x g => g.mono tu⟩
section
variable {P : Program} {w : World} {K : PySem.W.Frag} {mg : Str → Option Value} {base : Heap} {C : Addr}
def sp_short (C : Addr) : Sp := fun vs H Q _ => ∃ (F pr : Addr) (z : List Nat) (a b c d : Nat), vs = [.ref F, .ref pr, .str (S z)] ∧ FourL H F a b c d ∧ PrB C H pr a b c d ∧ Low z ∧ z.length ≤ 7 ∧ ∀ H', Same H H' → Q (.bl true) H'
theorem c_law_short_right (T : Txt K mg C) : C8.Cal P w K mg base 20 "_law_short_right" (sp_short C) [] := by
  refine calF T.d_law_short_right sc_law_short_right (fun vs H Q E h => ?_) (fun f0 cdv A outer s0 H vs Q E hr h => ?_)
  · obtain ⟨_, _, _, _, _, _, _, rfl, _⟩ := h; rfl
  · obtain ⟨F, pr, z, a, b, c, d, rfl, fl, pb, low, z7, q⟩ := h
    refine ⟨_, (pss_cons (ps_set (i := 3) sc_law_short_right.nd rfl (Or.inl rfl) (C8.pe_c (c_least_plain T) hr (by decide) (by rfl) (pa_cons (pv 2) (pa_cons (pv 1) pa_nil))))
    (pss_cons (ps_set (i := 4) sc_law_short_right.nd rfl (Or.inl rfl) (pe_callB (cr_minA rfl hr.units) (by rfl) T.m_min (by decide +kernel) (pa_cons (pe_lc (own := [("_law_writer", 5)]) (by rfl) sc_law_short_right.nd (pi_list (C8.pe_c (c_law_all_writers T) hr (by decide) (by rfl) (pa_cons (pv 2) pa_nil))) (blkOk_by (N := ["_law_four_here", "_law_prices_here", "_law_word_here", "_law_told", "_law_first", "_law_writer", "_law_ones"]) (sc := C8.fnScope (topS 57)) (own := [("_law_writer", 5)]) (by decide +kernel)) (fun _ _ _ _ _ => (pg_name (i := 5) sc_law_short_right.nd rfl (Or.inl rfl))) (fun _ _ _ _ _ => pts_nil) (fun _ _ _ _ _ => (C8.pe_c (c_law_rank T) hr (by decide) (by rfl) (pa_cons (pv 0) (pa_cons (pv 5) pa_nil))))) pa_nil)))
    (pss_cons (ps_if (PW.pt (pw_or (pt_not (pt_val (C8.pe_c (c_law_told_right T) hr (by decide) (by rfl) (pa_cons (pv 2) (pa_cons (pv 0) (pa_cons (pv 3) pa_nil)))))) (pw_or1 (pt_cmpR (op_neD hr.units) (pe_tup (pa_cons (pe_ix ix_tup (pv 3) pe_int (fun _ _ => rfl)) (pa_cons (pe_callB call_len_seq (by rfl) T.m_len (by decide +kernel) (pa_cons (pe_ix ix_tup (pv 3) pe_int (fun _ _ => rfl)) pa_nil)) (pa_cons (pe_ix ix_tup (pv 3) pe_int (fun _ _ => rfl)) pa_nil)))) (pv 4) (nomark _)))))
    (pss_one (ps_ret pe_bl))
    pss_nil)
    (pss_cons (ps_set (i := 6) sc_law_short_right.nd rfl (Or.inl rfl) (C8.pe_c (c_least_plain_D1 T) hr (by decide) (by rfl) (pa_cons (pv 2) pa_nil)))
    (pss_cons (ps_set (i := 4) sc_law_short_right.nd rfl (Or.inl rfl) (pe_callB (cr_minA rfl hr.units) (by rfl) T.m_min (by decide +kernel) (pa_cons (pe_lc (own := [("_law_writer", 5)]) (by rfl) sc_law_short_right.nd (pi_list (C8.pe_c (c_law_all_writers T) hr (by decide) (by rfl) (pa_cons (pv 2) pa_nil))) (blkOk_by (N := ["_law_four_here", "_law_prices_here", "_law_word_here", "_law_told", "_law_first", "_law_writer", "_law_ones"]) (sc := C8.fnScope (topS 57)) (own := [("_law_writer", 5)]) (by decide +kernel)) (fun _ _ _ _ _ => (pg_name (i := 5) sc_law_short_right.nd rfl (Or.inl rfl))) (fun _ _ _ _ _ => pts_nil) (fun _ _ _ _ _ => (C8.pe_c (c_law_rank T) hr (by decide) (by rfl) (pa_cons (pe_lst (pa_cons pe_int (pa_cons pe_int (pa_cons pe_int (pa_cons pe_int pa_nil))))) (pa_cons (pv 5) pa_nil))))) pa_nil)))
    (pss_one (ps_ret (pe_and (pe_cmpR (op_eqD hr.units) (pv 6) (pe_tup (pa_cons (pe_ix ix_tup (pv 4) pe_int (fun _ _ => rfl)) (pa_cons (pe_ix ix_tup (pv 4) pe_int (fun _ _ => rfl)) pa_nil))) (nomark _)) (pe_one (pe_cmpR (op_eqD hr.units) (pe_cN (c_least_plain_K_word_prices T) hr (by decide) (by rfl) (pk_cons (pv 2) (pk_cons pe_non pk_nil))) (pv 6) (nomark _))))))))))), ?_⟩
    refine ⟨_, rfl, _, rfl, z, .ref pr, a, b, c, d, rfl, low, by omega, .inr ⟨pr, rfl, pb⟩, fun r l H1 W s1 nl tv bst lw => ?_⟩
    dsimp only
    rw [gname_eq]
    have p7 : 4 ^ z.length ≤ 4 ^ 7 := Nat.pow_le_pow_right (by decide) z7
    have wbz : ∀ V, IsW z V → Wb V := fun V h => ⟨h.2, by rw [h.1]; omega⟩
    refine ⟨_, rfl, z, rfl, by omega, z7, low, fun LW Ws H2 s2 wl mW lWs => ?_⟩
    obtain ⟨ls, hls, als⟩ := id wl
    have lls := als.len
    refine ⟨LW, rfl, ⟨_, .inl (.inl hls)⟩, fun D nD => ?_⟩
    have fl2 := fl.same (s1.trans s2)
    refine lc_list (K := K) (a := LW) (xs := ls) (fun i HH => Same H2 HH ∧ ∃ rs, HH D = some (.lst rs) ∧ All2 (fun v V => ∃ l, RnkV HH v a (b + d) l V ∧ l ≠ D) rs (Ws.take i)) ⟨sameNew nD, [], upd_same, .nil⟩ (fun i HH _ p => .inl (.inl (p.1 _ _ hls))) (fun i y HH hi p => ?_) fun H3 p => ?_
    · obtain ⟨s3, rs, hrs, ar⟩ := p
      obtain ⟨V0, hV0, lv, rfl, wv⟩ := als.get hi
      have iV := (mW V0).mp (List.mem_of_getElem? hV0)
      refine ⟨rfl, yes_if ⟨_, rfl, _, rfl, F, lv, V0, a, b, c, d, rfl, fl2.same s3, wv.same s3, wbz V0 iV, fun v H4 s4 rk => ?_⟩⟩
      have lvD : lv ≠ D := fun x => by obtain ⟨_, e, _⟩ := wv; rw [x, nD] at e; cases e
      have hr4 := s4 _ _ hrs
      have lr := ar.len
      rw [List.length_take] at lr
      refine ⟨rs, hr4, by rw [lr, sizeLine_eq]; omega, same_upd2 nD (s3.trans s4), rs ++ [v], upd_same, ?_⟩
      rw [List.take_succ, hV0]
      exact (ar.mono fun v V ⟨l, g, ne⟩ => ⟨l, (g.same s4).updD ne hr4, ne⟩).app (.cons ⟨lv, rk.updD lvD hr4, lvD⟩ .nil)
    · obtain ⟨s3, rs, hrs, ar⟩ := p
      rw [lls, List.take_length] at ar
      refine min_rank hrs (ar.mono fun v V ⟨l, g, _⟩ => ⟨l, g⟩) mW bst fun fv lf rk => ?_
      dsimp only
      have s13 := s2.trans s3
      have tv3 := tv.same s13
      obtain ⟨t, us, rfl, ht, hl, av⟩ := id tv3
      refine ⟨_, rfl, _, rfl, _, rfl, z, F, l, .ref t, W, a, b, c, d, rfl, fl.same (s1.trans s13), tv3, bst.1, by omega, fun H4 s4 => ⟨true, rfl, iteF ?_⟩⟩
      have ht4 := s4 _ _ ht
      have hl4 := s4 _ _ hl
      refine ⟨_, rfl, t, _, 0, .int (cost a (b + d) W : Nat), rfl, rfl, .inl (.inl ht4), rfl, _, rfl, t, _, 1, .ref l, rfl, rfl, .inl (.inl ht4), rfl, l, us, rfl, .inl (.inl (.inl hl4)), _, rfl, t, _, 1, .ref l, rfl, rfl, .inl (.inl ht4), rfl, by show 3 ≤ sizeLine; decide, fun u nu => ⟨_, rfl, ?_⟩⟩
      have su := sameNew (o := .tup [.int (cost a (b + d) W : Nat), .int (us.length : Nat), .ref l]) nu
      have ru : RnkV (upd H4 u (.tup [.int (cost a (b + d) W : Nat), .int (us.length : Nat), .ref l])) (.ref u) a (b + d) l W := by
        rw [av.len]
        exact ⟨u, rfl, upd_same, WrL.same ⟨us, hl, av⟩ (s4.trans (by rw [← av.len]; exact su))⟩
      have sh := shaped_Rk (a := a) (s := b + d) lw
      refine ⟨dRk a (b + d) W, dRk a (b + d) W, ru.dp, (rk.same (s4.trans su)).dp, sh, sh, false, ?_, iteF ?_⟩
      · rw [SeqAt.eqv_refl _ (SeqAt.canLay_of_shaped sh)]
        rfl
      have s1u := s1.trans (s13.trans (s4.trans su))
      generalize upd H4 u (.tup [.int (cost a (b + d) W : Nat), .int (us.length : Nat), .ref l]) = H5 at s1u
      refine ⟨_, rfl, z, .non, 1, 1, 1, 1, rfl, low, by omega, .inl ⟨rfl, rfl, rfl, rfl, rfl⟩, fun r2 l2 H6 W2 s6 nl2 tv2 bst2 lw2 => ?_⟩
      dsimp only
      rw [gname_eq]
      refine ⟨_, rfl, z, rfl, by omega, z7, low, fun LW2 Ws2 H7 s7 wl2 mW2 lWs2 => ?_⟩
      obtain ⟨ls2, hls2, als2⟩ := id wl2
      have lls2 := als2.len
      refine ⟨LW2, rfl, ⟨_, .inl (.inl hls2)⟩, fun D2 nD2 => ?_⟩
      refine lc_list (K := K) (a := LW2) (xs := ls2) (fun i HH => Same H7 HH ∧ ∃ rs, HH D2 = some (.lst rs) ∧ All2 (fun v V => ∃ l, RnkV HH v 1 (1 + 1) l V ∧ l ≠ D2) rs (Ws2.take i)) ⟨sameNew nD2, [], upd_same, .nil⟩ (fun i HH _ p => .inl (.inl (p.1 _ _ hls2))) (fun i y HH hi p => ?_) fun H8 p => ?_
      · obtain ⟨s3, rs, hrs, ar⟩ := p
        obtain ⟨V0, hV0, lv, rfl, wv⟩ := als2.get hi
        have iV := (mW2 V0).mp (List.mem_of_getElem? hV0)
        have lvD : lv ≠ D2 := fun x => by obtain ⟨_, e, _⟩ := wv; rw [x, nD2] at e; cases e
        refine ⟨rfl, yes_if ⟨by show 4 ≤ sizeLine; decide, fun F1 nF1 => ?_⟩⟩
        have sF := sameNew (o := .lst [.int 1, .int 1, .int 1, .int 1]) nF1
        have fl1 : FourL (upd HH F1 (.lst [.int 1, .int 1, .int 1, .int 1])) F1 1 1 1 1 := ⟨upd_same, by decide, by decide, by decide, by decide, by decide⟩
        refine ⟨_, rfl, F1, lv, V0, 1, 1, 1, 1, rfl, fl1, wv.same (s3.trans sF), wbz V0 iV, fun v H9 s9 rk => ?_⟩
        have hr4 := s9 _ _ (sF _ _ hrs)
        have lr := ar.len
        rw [List.length_take] at lr
        refine ⟨rs, hr4, by rw [lr, sizeLine_eq]; omega, same_upd2 nD2 (s3.trans (sF.trans s9)), rs ++ [v], upd_same, ?_⟩
        rw [List.take_succ, hV0]
        exact (ar.mono fun v V ⟨l, g, ne⟩ => ⟨l, (g.same (sF.trans s9)).updD ne hr4, ne⟩).app (.cons ⟨lv, rk.updD lvD hr4, lvD⟩ .nil)
      · obtain ⟨s3, rs, hrs, ar⟩ := p
        rw [lls2, List.take_length] at ar
        refine min_rank hrs (ar.mono fun v V ⟨l, g, _⟩ => ⟨l, g⟩) mW2 bst2 fun fv2 lf2 rk2 => ?_
        dsimp only
        have s68 := s7.trans s3
        have tv8 := tv2.same s68
        obtain ⟨ft, rfl, hft, wlf⟩ := id rk2
        have sh2 := shaped_Td (a := 1) (s := 1 + 1) lw2
        refine ⟨_, rfl, _, rfl, ft, _, 0, .int (cost 1 (1 + 1) W2 : Nat), rfl, rfl, .inl (.inl hft), rfl, _, rfl, ft, _, 2, .ref lf2, rfl, rfl, .inl (.inl hft), rfl, by show 2 ≤ sizeLine; decide, fun u2 nu2 => ?_⟩
        have su2 := sameNew (o := .tup [.int (cost 1 (1 + 1) W2 : Nat), .ref lf2]) nu2
        have du : Dp K (upd H8 u2 (.tup [.int (cost 1 (1 + 1) W2 : Nat), .ref lf2])) (.ref u2) (dTd 1 (1 + 1) W2) := .tup (.inl (.inl upd_same)) (.cons (.int _) (.cons (wlf.same su2).dp .nil))
        refine ⟨dTd 1 (1 + 1) W2, dTd 1 (1 + 1) W2, (tv8.same su2).dp, du, sh2, sh2, ?_⟩
        rw [SeqAt.eqv_refl _ (SeqAt.canLay_of_shaped sh2)]
        refine ⟨true, rfl, iteT ?_⟩
        have s69 := s68.trans su2
        refine ⟨_, rfl, rfl, rfl, z, .non, 1, 1, 1, 1, rfl, low, by omega, .inl ⟨rfl, rfl, rfl, rfl, rfl⟩, fun r3 l3 H10 W3 s10 nl3 tv3' bst3 lw3 => ?_⟩
        have eW : W3 = W2 := LP.leR_anti (bst3.2 W2 bst2.1) (bst2.2 W3 bst3.1)
        subst eW
        refine ⟨_, rfl, dTd 1 (1 + 1) W3, dTd 1 (1 + 1) W3, tv3'.dp, (tv2.same (s69.trans s10)).dp, sh2, sh2, ?_⟩
        rw [SeqAt.eqv_refl _ (SeqAt.canLay_of_shaped sh2)]
        exact q H10 (s1u.trans (s6.trans (s69.trans s10)))
end
end K61

set_option linter.all false
/-! the least writer by computation -/
namespace LP
theorem leL_refl : ∀ W : List Pc, leL W W
  | [] => trivial
  | p :: W => .inr ⟨rfl, leL_refl W⟩
theorem leL_trans : ∀ {A B C : List Pc}, leL A B → leL B C → leL A C
  | [], _, _, _, _ => trivial
  | _ :: _, [], _, h, _ => h.elim
  | _ :: _, _ :: _, [], _, h => h.elim
  | a :: A, b :: B, c :: C, h, g => by
    rcases h with h | ⟨rfl, h⟩
    · rcases g with g | ⟨rfl, g⟩
      · exact .inl (ltP_trans h g)
      · exact .inl h
    · rcases g with g | ⟨rfl, g⟩
      · exact .inl g
      · exact .inr ⟨rfl, leL_trans h g⟩
theorem leL_total : ∀ A B : List Pc, leL A B ∨ leL B A
  | [], _ => .inl trivial
  | _ :: _, [] => .inr trivial
  | a :: A, b :: B => by
    rcases ltP_total a b with h | h | h
    · exact .inl (.inl h)
    · subst h
      rcases leL_total A B with g | g
      · exact .inl (.inr ⟨rfl, g⟩)
      · exact .inr (.inr ⟨rfl, g⟩)
    · exact .inr (.inl h)
theorem leR_trans {a s : Nat} {A B C : List Pc} (h : leR a s A B) (g : leR a s B C) : leR a s A C := by
  unfold leR at *
  rcases h with h | ⟨h1, h⟩
  · rcases g with g | ⟨g1, g⟩
    · exact .inl (by omega)
    · exact .inl (by omega)
  · rcases g with g | ⟨g1, g⟩
    · exact .inl (by omega)
    · refine .inr ⟨by omega, ?_⟩
      rcases h with h | ⟨h2, h⟩
      · rcases g with g | ⟨g2, g⟩
        · exact .inl (by omega)
        · exact .inl (by omega)
      · rcases g with g | ⟨g2, g⟩
        · exact .inl (by omega)
        · exact .inr ⟨by omega, leL_trans h g⟩
theorem leR_total (a s : Nat) (A B : List Pc) : leR a s A B ∨ leR a s B A := by
  unfold leR
  rcases Nat.lt_trichotomy (cost a s A) (cost a s B) with h | h | h
  · exact .inl (.inl h)
  · rcases Nat.lt_trichotomy A.length B.length with g | g | g
    · exact .inl (.inr ⟨h, .inl g⟩)
    · rcases leL_total A B with k | k
      · exact .inl (.inr ⟨h, .inr ⟨g, k⟩⟩)
      · exact .inr (.inr ⟨h.symm, .inr ⟨g.symm, k⟩⟩)
    · exact .inr (.inr ⟨h.symm, .inl g⟩)
  · exact .inr (.inl h)
theorem leR_refl (a s : Nat) (A : List Pc) : leR a s A A := .inr ⟨rfl, .inr ⟨rfl, leL_refl A⟩⟩
theorem leR_cons {a s : Nat} {p q : Pc} {B V : List Pc} (h : leStep a s p q) (g : leR a s B V) : leR a s (p :: B) (q :: V) := by
  unfold leStep at h
  unfold leR at *
  rw [cost, cost, List.length_cons, List.length_cons]
  rcases h with h | ⟨h1, h⟩
  · refine .inl ?_
    rcases g with g | ⟨g, _⟩ <;> omega
  · rcases g with g | ⟨g1, g⟩
    · exact .inl (by omega)
    · refine .inr ⟨by omega, ?_⟩
      rcases g with g | ⟨g2, g⟩
      · exact .inl (by omega)
      · refine .inr ⟨by omega, ?_⟩
        rcases h with h | h
        · exact .inl h
        · exact .inr ⟨h, g⟩
def ltPb (p q : Pc) : Bool := decide (p.1 < q.1) || (decide (p.1 = q.1) && decide (p.2 < q.2))
theorem ltPb_iff (p q : Pc) : ltPb p q = true ↔ ltP p q := by
  unfold ltPb ltP
  simp
def leLb : List Pc → List Pc → Bool
  | [], _ => true
  | _ :: _, [] => false
  | p :: W, q :: V => ltPb p q || (decide (p = q) && leLb W V)
theorem leLb_iff : ∀ W V : List Pc, leLb W V = true ↔ leL W V
  | [], _ => by simp [leLb, leL]
  | _ :: _, [] => by simp [leLb, leL]
  | p :: W, q :: V => by
    rw [leLb, leL, Bool.or_eq_true, ltPb_iff, Bool.and_eq_true, decide_eq_true_iff, leLb_iff W V]
def leRb (a s : Nat) (W V : List Pc) : Bool := decide (cost a s W < cost a s V) || (decide (cost a s W = cost a s V) && (decide (W.length < V.length) || (decide (W.length = V.length) && leLb W V)))
theorem leRb_iff {a s : Nat} {W V : List Pc} : leRb a s W V = true ↔ leR a s W V := by
  unfold leRb leR
  rw [Bool.or_eq_true, Bool.and_eq_true, Bool.or_eq_true, Bool.and_eq_true, leLb_iff]
  simp only [decide_eq_true_iff]
def leStepb (a s : Nat) (p q : Pc) : Bool := decide (c1 a s p < c1 a s q) || (decide (c1 a s p = c1 a s q) && (ltPb p q || decide (p = q)))
theorem leStepb_iff {a s : Nat} {p q : Pc} : leStepb a s p q = true ↔ leStep a s p q := by
  unfold leStepb leStep
  rw [Bool.or_eq_true, Bool.and_eq_true, Bool.or_eq_true, ltPb_iff]
  simp only [decide_eq_true_iff]
theorem leStep_total (a s : Nat) (p q : Pc) : leStep a s p q ∨ leStep a s q p := by
  unfold leStep
  rcases Nat.lt_trichotomy (c1 a s p) (c1 a s q) with h | h | h
  · exact .inl (.inl h)
  · rcases ltP_total p q with g | g | g
    · exact .inl (.inr ⟨h, .inl g⟩)
    · exact .inl (.inr ⟨h, .inr g⟩)
    · exact .inr (.inr ⟨h.symm, .inl g⟩)
  · exact .inr (.inl h)
def stepB (a s : Nat) (z : List Nat) : Pc := if WM.rootN z < z.length then (if leStepb a s (z, 1) (z.take (WM.rootN z), z.length / WM.rootN z) then (z, 1) else (z.take (WM.rootN z), z.length / WM.rootN z)) else (z, 1)
theorem stepB_ok {a s : Nat} (a1 : 1 ≤ a) {z : List Nat} (ne : z ≠ []) : StepOk a s z (stepB a s z) := by
  have rf : ∀ p, leStep a s p p := fun p => .inr ⟨rfl, .inr rfl⟩
  by_cases c : WM.rootN z < z.length
  · have eo : opts z = [(z, 1), (z.take (WM.rootN z), z.length / WM.rootN z)] := by unfold opts; rw [if_pos c]
    unfold stepB
    rw [if_pos c]
    by_cases l : leStepb a s (z, 1) (z.take (WM.rootN z), z.length / WM.rootN z) = true
    · rw [if_pos l]
      refine step_of a1 ne (by rw [eo]; exact List.mem_cons_self) fun q hq => ?_
      rw [eo] at hq
      rcases List.mem_cons.mp hq with rfl | hq
      · exact rf _
      · rw [List.mem_singleton.mp hq]
        exact leStepb_iff.mp l
    · rw [if_neg l]
      refine step_of a1 ne (by rw [eo]; exact List.mem_cons_of_mem _ List.mem_cons_self) fun q hq => ?_
      rw [eo] at hq
      rcases List.mem_cons.mp hq with rfl | hq
      · rcases leStep_total a s (z, 1) (z.take (WM.rootN z), z.length / WM.rootN z) with h | h
        · exact absurd (leStepb_iff.mpr h) l
        · exact h
      · rw [List.mem_singleton.mp hq]
        exact rf _
  · have eo : opts z = [(z, 1)] := by unfold opts; rw [if_neg c]
    unfold stepB
    rw [if_neg c]
    refine step_of a1 ne (by rw [eo]; exact List.mem_cons_self) fun q hq => ?_
    rw [eo] at hq
    rw [List.mem_singleton.mp hq]
    exact rf _
def minR (a s : Nat) (m : List Pc) : List (List Pc) → List Pc
  | [] => m
  | c :: r => minR a s (if leRb a s m c then m else c) r
theorem minR_ok (a s : Nat) : ∀ (r : List (List Pc)) (m : List Pc), minR a s m r ∈ m :: r ∧ ∀ c ∈ m :: r, leR a s (minR a s m r) c
  | [], m => ⟨List.mem_cons_self, fun c hc => by rw [List.mem_singleton.mp hc]; exact leR_refl a s m⟩
  | c :: r, m => by
    obtain ⟨h1, h2⟩ := minR_ok a s r (if leRb a s m c then m else c)
    rw [minR]
    by_cases l : leRb a s m c = true
    · rw [if_pos l] at h1 h2 ⊢
      have h0 := h2 m List.mem_cons_self
      refine ⟨?_, fun d hd => ?_⟩
      · rcases List.mem_cons.mp h1 with e | e
        · rw [e]; exact List.mem_cons_self
        · exact List.mem_cons_of_mem _ (List.mem_cons_of_mem _ e)
      · rcases List.mem_cons.mp hd with rfl | hd
        · exact h0
        · rcases List.mem_cons.mp hd with rfl | hd
          · exact leR_trans h0 (leRb_iff.mp l)
          · exact h2 d (List.mem_cons_of_mem _ hd)
    · rw [if_neg l] at h1 h2 ⊢
      have h0 := h2 c List.mem_cons_self
      have l' : leR a s c m := by
        rcases leR_total a s m c with g | g
        · exact absurd (leRb_iff.mpr g) l
        · exact g
      refine ⟨?_, fun d hd => ?_⟩
      · rcases List.mem_cons.mp h1 with e | e
        · rw [e]; exact List.mem_cons_of_mem _ List.mem_cons_self
        · exact List.mem_cons_of_mem _ (List.mem_cons_of_mem _ e)
      · rcases List.mem_cons.mp hd with rfl | hd
        · exact leR_trans h0 l'
        · exact h2 d hd
/-- the least writers of all endings -/
def dpA (a s : Nat) : List Nat → List (List Pc)
  | [] => [[]]
  | c :: r => (minR a s (stepB a s [c] :: (dpA a s r).getD 0 []) ((List.range r.length).map fun k => stepB a s ((c :: r).take (k + 2)) :: (dpA a s r).getD (k + 1) [])) :: dpA a s r
theorem dpA_ok {a s : Nat} (a1 : 1 ≤ a) : ∀ z : List Nat, (∀ k, k ≤ z.length → Best a s (z.drop k) ((dpA a s z).getD k []))
  | [] => fun k hk => by
    have : k = 0 := by simpa using hk
    rw [this]
    exact best_nil a s
  | c :: r => fun k hk => by
    have ih := dpA_ok (s := s) a1 r
    cases k with
    | succ k =>
      rw [List.drop_succ_cons]
      show Best a s (r.drop k) ((dpA a s r).getD k [])
      exact ih k (by simpa using hk)
    | zero =>
      show Best a s (c :: r) (minR a s (stepB a s [c] :: (dpA a s r).getD 0 []) ((List.range r.length).map fun k => stepB a s ((c :: r).take (k + 2)) :: (dpA a s r).getD (k + 1) []))
      obtain ⟨m1, m2⟩ := minR_ok a s ((List.range r.length).map fun k => stepB a s ((c :: r).take (k + 2)) :: (dpA a s r).getD (k + 1) []) (stepB a s [c] :: (dpA a s r).getD 0 [])
      generalize minR a s (stepB a s [c] :: (dpA a s r).getD 0 []) ((List.range r.length).map fun k => stepB a s ((c :: r).take (k + 2)) :: (dpA a s r).getD (k + 1) []) = m at m1 m2
      have cand : ∀ k, 1 ≤ k → k ≤ (c :: r).length → (stepB a s ((c :: r).take k) :: (dpA a s r).getD (k - 1) []) ∈ (stepB a s [c] :: (dpA a s r).getD 0 []) :: ((List.range r.length).map fun k => stepB a s ((c :: r).take (k + 2)) :: (dpA a s r).getD (k + 1) []) := fun k k1 k2 => by
        by_cases e : k = 1
        · subst e
          exact List.mem_cons_self
        · obtain ⟨j, rfl⟩ : ∃ j, k = j + 2 := ⟨k - 2, by omega⟩
          refine List.mem_cons_of_mem _ (List.mem_map.mpr ⟨j, List.mem_range.mpr (by have : j + 1 ≤ r.length := (by simpa using k2); omega), rfl⟩)
      have isw : ∀ k, 1 ≤ k → k ≤ (c :: r).length → IsW (c :: r) (stepB a s ((c :: r).take k) :: (dpA a s r).getD (k - 1) []) := fun k k1 k2 => by
        obtain ⟨j, rfl⟩ : ∃ j, k = j + 1 := ⟨k - 1, by omega⟩
        obtain ⟨p1, p2, _⟩ := stepB_ok (a := a) (s := s) a1 (z := (c :: r).take (j + 1)) (by simp)
        obtain ⟨⟨b1, b2⟩, _⟩ := ih j (by simpa using k2)
        rw [Nat.add_sub_cancel]
        refine ⟨?_, fun q hq => ?_⟩
        · rw [spell, p1, b1]
          show _ ++ (c :: r).drop (j + 1) = _
          rw [List.take_append_drop]
        · rcases List.mem_cons.mp hq with rfl | hq
          · exact p2
          · exact b2 q hq
      refine ⟨?_, fun V hV => ?_⟩
      · rcases List.mem_cons.mp m1 with e | e
        · rw [e]
          exact isw 1 (by decide) (by simp)
        · obtain ⟨j, hj, rfl⟩ := List.mem_map.mp e
          have := List.mem_range.mp hj
          exact isw (j + 2) (by omega) (by simp; omega)
      · cases V with
        | nil => cases hV.1
        | cons q V =>
          obtain ⟨h1, h2⟩ := hV
          have oq := h2 q List.mem_cons_self
          obtain ⟨k, hk⟩ : ∃ k, k = q.1.length * q.2 := ⟨_, rfl⟩
          have lk : (WM.pw q.1 q.2).length = k := by rw [hk]; exact pw_lenP q
          have k1 : 1 ≤ k := by rw [hk]; exact okp_pos oq
          rw [spell] at h1
          have kw : k ≤ (c :: r).length := by rw [← h1, List.length_append]; omega
          have tk : (c :: r).take k = WM.pw q.1 q.2 := by rw [← h1, ← lk, List.take_left]
          have dk : (c :: r).drop k = spell V := by rw [← h1, ← lk, List.drop_left]
          refine leR_trans (m2 _ (cand k k1 kw)) (leR_cons ?_ ?_)
          · obtain ⟨_, _, p3⟩ := stepB_ok (a := a) (s := s) a1 (z := (c :: r).take k) (by obtain ⟨j, rfl⟩ : ∃ j, k = j + 1 := ⟨k - 1, by omega⟩; simp)
            exact p3 q tk.symm oq
          · obtain ⟨j, hj⟩ : ∃ j, k = j + 1 := ⟨k - 1, by omega⟩
            rw [hj, Nat.add_sub_cancel]
            refine (ih j (by rw [hj] at kw; simpa using kw)).2 V ⟨?_, fun q hq => h2 q (List.mem_cons_of_mem _ hq)⟩
            rw [← dk, hj]
            rfl
theorem best_dp {a s : Nat} (a1 : 1 ≤ a) {z : List Nat} {W V : List Pc} (h : Best a s z W) (e : (dpA a s z).getD 0 [] = V) : W = V := by
  have g := dpA_ok (s := s) a1 z 0 (Nat.zero_le _)
  rw [List.drop_zero, e] at g
  exact leR_anti (h.2 V g.1) (g.2 W h.1)
end LP

set_option Elab.async false
set_option linter.all false
set_option maxRecDepth 100000
set_option maxHeartbeats 4000000
set_option exponentiation.threshold 3000
namespace K61
open PySem PySem.Spec PyProof.Rows L2 CK SX NM PySem.W
open LP (Pc leL leR leStep c1 StepOk opts Best cost Okp spell IsW)
theorem str_a : Str.ofString "a" = S [97] := by decide +kernel
theorem str_ab : Str.ofString "ab" = S [97, 98] := by decide +kernel
theorem str_aaa : Str.ofString "aaa" = S [97, 97, 97] := by decide +kernel
theorem str_babab : Str.ofString "babab" = S [98, 97, 98, 97, 98] := by decide +kernel
theorem str_ababab : Str.ofString "ababab" = S [97, 98, 97, 98, 97, 98] := by decide +kernel
section
variable {P : Program} {w : World} {K : PySem.W.Frag} {mg : Str → Option Value} {base : Heap} {C : Addr} {f : Addr} {fd : FuncData}
theorem bI_letter_sign_number (F : FI K f fd) : ∃ g, KBn K fd pI 1 ["letter", "sign", "number"] g (fun vs zs => vs ++ (at1 zs 0 ++ (at1 zs 1 ++ (at1 ([.int 1] : List L2.V) 0 ++ (at1 zs 2))))) := by
  obtain ⟨mv, h⟩ := F.kbinds0 (ps := pI) 1 ["letter", "sign", "number"] [("unknown", .int 1)] (fun us mv ws => us ++ (at1 ws 0 ++ (at1 ws 1 ++ (at1 mv 0 ++ (at1 ws 2))))) (List.cons_ne_nil _ _) (by simp) (fun r1 r2 r3 => (r1.append ((at1_rel r3 0).append ((at1_rel r3 1).append ((at1_rel r2 0).append (at1_rel r3 2)))))) fun D doc pm an cdv ct us mv ws l1 l2 l3 => by
    match us, l1, mv, l2, ws, l3 with
    | [u], _, [m0], _, [w0, w1, w2], _ => exact ⟨_, _, _, _, _, _, rfl, rfl, rfl⟩
  exact ⟨_, h⟩
def n_Prices_K_letter_sign_number (T : Txt K mg C) := n_kw (P := P) (w := w) (base := base) T bI_letter_sign_number
/-- the told answer by computation -/
theorem told_eq {K : PySem.W.Frag} {H : Hp} {a s : Nat} {v : L2.V} {l : Addr} {z : List Nat} {W V : List Pc} (a1 : 1 ≤ a) (tv : ToldV H a s v l W) (b : Best a s z W) (e : (LP.dpA a s z).getD 0 [] = V) : Dp K H v (dTd a s V) := by
  rw [← LP.best_dp a1 b e]
  exact tv.dp
theorem law_8 (T : Txt K mg C) (f0 : Addr) (cdv : Value) (A : Around) (outer : List Env) (s0 : Shared) (H0 : Hp) (E : XK) (hr : Room 21 (A.deeper (envOfC "law" (C8.fnScope (topS 58)) s0.heap.objs.size f0 cdv))) (gd : A.guards = some []) :
    ∃ u, PSs (cxOf C8.CX0 P w K mg base ["_law_script", "_law_generator_here", "_law_signs", "_law_writer", "_law_four_here", "_law_word_here", "_law_other", "_law_prices_here", "_law_short"] "law" (C8.fnScope (topS 58)) f0 cdv A outer s0 H0 E).nox ((C8.fnBody (topS 58)).drop 8) u ∧
      ∀ (Dn : Ends) (H : Hp) (v0 v1 v2 v3 v4 v5 v6 v7 v8 : Option L2.V), (∀ H', Dn.rt (.bl true) H') → u Dn [v0, v1, v2, v3, v4, v5, v6, v7, v8] H := by
  refine ⟨_, (pss_cons (ps_if (pt_cmpR (op_neD hr.units) (C8.pe_c (c_least_plain T) hr (by decide) (by rfl) (pa_cons (pe_op op_add_str (pe_op op_repS pe_str pe_int) pe_str) (pa_cons (pe_mkN (n_Prices_K_letter_sign_number T) hr (by decide) (by rfl) (pk_cons pe_int (pk_cons pe_int (pk_cons pe_int pk_nil)))) pa_nil))) (pe_tup (pa_cons pe_int (pa_cons (pe_lst (pa_cons (pe_tup (pa_cons pe_str (pa_cons pe_int pa_nil))) (pa_cons (pe_tup (pa_cons pe_str (pa_cons pe_int pa_nil))) pa_nil))) pa_nil))) (nomark _))
    (pss_one (ps_ret pe_bl))
    pss_nil)
    (pss_cons (ps_if (PW.pt (pw_or (pt_cmpR (op_neD hr.units) (C8.pe_c (c_least_plain T) hr (by decide) (by rfl) (pa_cons pe_str (pa_cons (pe_mkN (n_Prices_K_letter T) hr (by decide) (by rfl) (pk_cons pe_int pk_nil)) pa_nil))) (pe_tup (pa_cons pe_int (pa_cons (pe_lst (pa_cons (pe_tup (pa_cons pe_str (pa_cons pe_int pa_nil))) pa_nil)) pa_nil))) (nomark _)) (pw_or1 (pt_cmpR (op_neD hr.units) (C8.pe_c (c_least_plain_D1 T) hr (by decide) (by rfl) (pa_cons pe_str pa_nil)) (pe_tup (pa_cons pe_int (pa_cons (pe_lst (pa_cons (pe_tup (pa_cons pe_str (pa_cons pe_int pa_nil))) pa_nil)) pa_nil))) (nomark _)))))
    (pss_one (ps_ret pe_bl))
    pss_nil)
    (pss_one (ps_ret (pe_and (pe_cmpR (op_eqD hr.units) (C8.pe_c (c_least_plain_D1 T) hr (by decide) (by rfl) (pa_cons pe_str pa_nil)) (pe_tup (pa_cons pe_int (pa_cons (pe_lst (pa_cons (pe_tup (pa_cons pe_str (pa_cons pe_int pa_nil))) pa_nil)) pa_nil))) (nomark _)) (pe_one (pe_cmpR (op_eqD hr.units) (C8.pe_c (c_least_plain_D1 T) hr (by decide) (by rfl) (pa_cons pe_str pa_nil)) (pe_tup (pa_cons pe_int (pa_cons (pe_lst pa_nil) pa_nil))) (nomark _)))))))), ?_⟩
  intro Dn H v0 v1 v2 v3 v4 v5 v6 v7 v8 q
  rw [str_a, str_babab, str_ab, str_aaa, str_ababab]
  refine ⟨[97], 10, rfl, rfl, by decide, by decide, _, _, rfl, rfl, by rw [S_len, S_len]; decide, ?_⟩
  rw [S_cat]
  refine ⟨rfl, rfl, fun x1 dx1 nx1 ndx1 ne1 => mk_pr nx1 ndx1 ne1 (by decide) fun P1 p1 hp1 => ⟨rfl, ?_⟩⟩
  refine ⟨(List.replicate 10 [97]).flatten ++ [98, 97, 98, 97, 98], .ref x1, 1, 3, 1, 0, rfl, by unfold Low; decide +kernel, by decide +kernel, .inr ⟨x1, rfl, hp1, by decide, by decide, by decide, by decide, by decide⟩, fun r1 l1 R1 W1 q1 nl1 tv1 b1 lw1 => ?_⟩
  have e1 := told_eq (K := K) (V := [([97], 9), ([97, 98], 3)]) (by decide) tv1 b1 (by decide +kernel)
  refine ⟨by show 2 ≤ sizeLine; decide, fun a1 m1 => ?_⟩
  have s1 := sameNew (o := .tup [.str (S [97]), .int 9]) m1
  have h1 : upd R1 a1 (.tup [.str (S [97]), .int 9]) a1 = some (.tup [.str (S [97]), .int 9]) := upd_same
  generalize upd R1 a1 (.tup [.str (S [97]), .int 9]) = L1 at s1 h1 ⊢
  replace e1 := dp_same s1 _ _ e1
  have d1 : Dp K L1 (.ref a1) (.tuple [.str (S [97]), .int 9]) := .tup (.inl (.inl h1)) (.cons (.str _) (.cons (.int _) .nil))
  refine ⟨by show 2 ≤ sizeLine; decide, fun a2 m2 => ?_⟩
  have s2 := sameNew (o := .tup [.str (S [97, 98]), .int 3]) m2
  have h2 : upd L1 a2 (.tup [.str (S [97, 98]), .int 3]) a2 = some (.tup [.str (S [97, 98]), .int 3]) := upd_same
  generalize upd L1 a2 (.tup [.str (S [97, 98]), .int 3]) = L2 at s2 h2 ⊢
  replace d1 := dp_same s2 _ _ d1
  replace e1 := dp_same s2 _ _ e1
  have d2 : Dp K L2 (.ref a2) (.tuple [.str (S [97, 98]), .int 3]) := .tup (.inl (.inl h2)) (.cons (.str _) (.cons (.int _) .nil))
  refine ⟨by show 2 ≤ sizeLine; decide, fun a3 m3 => ?_⟩
  have s3 := sameNew (o := .lst [.ref a1, .ref a2]) m3
  have h3 : upd L2 a3 (.lst [.ref a1, .ref a2]) a3 = some (.lst [.ref a1, .ref a2]) := upd_same
  generalize upd L2 a3 (.lst [.ref a1, .ref a2]) = L3 at s3 h3 ⊢
  replace d1 := dp_same s3 _ _ d1
  replace d2 := dp_same s3 _ _ d2
  replace e1 := dp_same s3 _ _ e1
  have d3 : Dp K L3 (.ref a3) (.list [.tuple [.str (S [97]), .int 9], .tuple [.str (S [97, 98]), .int 3]]) := .lst (.inl (.inl h3)) (.cons d1 (.cons d2 .nil))
  refine ⟨by show 2 ≤ sizeLine; decide, fun a4 m4 => ?_⟩
  have s4 := sameNew (o := .tup [.int 9, .ref a3]) m4
  have h4 : upd L3 a4 (.tup [.int 9, .ref a3]) a4 = some (.tup [.int 9, .ref a3]) := upd_same
  generalize upd L3 a4 (.tup [.int 9, .ref a3]) = L4 at s4 h4 ⊢
  replace d3 := dp_same s4 _ _ d3
  replace e1 := dp_same s4 _ _ e1
  have d4 : Dp K L4 (.ref a4) (.tuple [.int 9, .list [.tuple [.str (S [97]), .int 9], .tuple [.str (S [97, 98]), .int 3]]]) := .tup (.inl (.inl h4)) (.cons (.int _) (.cons d3 .nil))
  refine ⟨_, _, e1, d4, by decide +kernel, by decide +kernel, false, by (rw [show PyData.eqv (dTd 1 3 [([97], 9), ([97, 98], 3)]) (.tuple [.int 9, .list [.tuple [.str (S [97]), .int 9], .tuple [.str (S [97, 98]), .int 3]]]) = true by decide +kernel]; rfl), iteF ?_⟩
  clear e1 d4 tv1 b1
  refine ⟨rfl, rfl, fun x2 dx2 nx2 ndx2 ne2 => mk_pr nx2 ndx2 ne2 (by decide) fun P2 p2 hp2 => ⟨rfl, ?_⟩⟩
  refine ⟨[97, 97, 97], .ref x2, 2, 1, 1, 1, rfl, by unfold Low; decide +kernel, by decide +kernel, .inr ⟨x2, rfl, hp2, by decide, by decide, by decide, by decide, by decide⟩, fun r2 l2 R2 W2 q2 nl2 tv2 b2 lw2 => ?_⟩
  have e2 := told_eq (K := K) (V := [([97], 3)]) (by decide) tv2 b2 (by decide +kernel)
  refine ⟨by show 2 ≤ sizeLine; decide, fun a5 m5 => ?_⟩
  have s5 := sameNew (o := .tup [.str (S [97]), .int 3]) m5
  have h5 : upd R2 a5 (.tup [.str (S [97]), .int 3]) a5 = some (.tup [.str (S [97]), .int 3]) := upd_same
  generalize upd R2 a5 (.tup [.str (S [97]), .int 3]) = L5 at s5 h5 ⊢
  replace e2 := dp_same s5 _ _ e2
  have d5 : Dp K L5 (.ref a5) (.tuple [.str (S [97]), .int 3]) := .tup (.inl (.inl h5)) (.cons (.str _) (.cons (.int _) .nil))
  refine ⟨by show 1 ≤ sizeLine; decide, fun a6 m6 => ?_⟩
  have s6 := sameNew (o := .lst [.ref a5]) m6
  have h6 : upd L5 a6 (.lst [.ref a5]) a6 = some (.lst [.ref a5]) := upd_same
  generalize upd L5 a6 (.lst [.ref a5]) = L6 at s6 h6 ⊢
  replace d5 := dp_same s6 _ _ d5
  replace e2 := dp_same s6 _ _ e2
  have d6 : Dp K L6 (.ref a6) (.list [.tuple [.str (S [97]), .int 3]]) := .lst (.inl (.inl h6)) (.cons d5 .nil)
  refine ⟨by show 2 ≤ sizeLine; decide, fun a7 m7 => ?_⟩
  have s7 := sameNew (o := .tup [.int 4, .ref a6]) m7
  have h7 : upd L6 a7 (.tup [.int 4, .ref a6]) a7 = some (.tup [.int 4, .ref a6]) := upd_same
  generalize upd L6 a7 (.tup [.int 4, .ref a6]) = L7 at s7 h7 ⊢
  replace d6 := dp_same s7 _ _ d6
  replace e2 := dp_same s7 _ _ e2
  have d7 : Dp K L7 (.ref a7) (.tuple [.int 4, .list [.tuple [.str (S [97]), .int 3]]]) := .tup (.inl (.inl h7)) (.cons (.int _) (.cons d6 .nil))
  refine ⟨_, _, e2, d7, by decide +kernel, by decide +kernel, false, by (rw [show PyData.eqv (dTd 2 2 [([97], 3)]) (.tuple [.int 4, .list [.tuple [.str (S [97]), .int 3]]]) = true by decide +kernel]; rfl), iteF ?_⟩
  clear e2 d7 tv2 b2
  refine ⟨[97, 97, 97], .non, 1, 1, 1, 1, rfl, by unfold Low; decide +kernel, by decide +kernel, .inl ⟨rfl, rfl, rfl, rfl, rfl⟩, fun r3 l3 R3 W3 q3 nl3 tv3 b3 lw3 => ?_⟩
  have e3 := told_eq (K := K) (V := [([97], 3)]) (by decide) tv3 b3 (by decide +kernel)
  refine ⟨by show 2 ≤ sizeLine; decide, fun a8 m8 => ?_⟩
  have s8 := sameNew (o := .tup [.str (S [97]), .int 3]) m8
  have h8 : upd R3 a8 (.tup [.str (S [97]), .int 3]) a8 = some (.tup [.str (S [97]), .int 3]) := upd_same
  generalize upd R3 a8 (.tup [.str (S [97]), .int 3]) = L8 at s8 h8 ⊢
  replace e3 := dp_same s8 _ _ e3
  have d8 : Dp K L8 (.ref a8) (.tuple [.str (S [97]), .int 3]) := .tup (.inl (.inl h8)) (.cons (.str _) (.cons (.int _) .nil))
  refine ⟨by show 1 ≤ sizeLine; decide, fun a9 m9 => ?_⟩
  have s9 := sameNew (o := .lst [.ref a8]) m9
  have h9 : upd L8 a9 (.lst [.ref a8]) a9 = some (.lst [.ref a8]) := upd_same
  generalize upd L8 a9 (.lst [.ref a8]) = L9 at s9 h9 ⊢
  replace d8 := dp_same s9 _ _ d8
  replace e3 := dp_same s9 _ _ e3
  have d9 : Dp K L9 (.ref a9) (.list [.tuple [.str (S [97]), .int 3]]) := .lst (.inl (.inl h9)) (.cons d8 .nil)
  refine ⟨by show 2 ≤ sizeLine; decide, fun a10 m10 => ?_⟩
  have s10 := sameNew (o := .tup [.int 3, .ref a9]) m10
  have h10 : upd L9 a10 (.tup [.int 3, .ref a9]) a10 = some (.tup [.int 3, .ref a9]) := upd_same
  generalize upd L9 a10 (.tup [.int 3, .ref a9]) = L10 at s10 h10 ⊢
  replace d9 := dp_same s10 _ _ d9
  replace e3 := dp_same s10 _ _ e3
  have d10 : Dp K L10 (.ref a10) (.tuple [.int 3, .list [.tuple [.str (S [97]), .int 3]]]) := .tup (.inl (.inl h10)) (.cons (.int _) (.cons d9 .nil))
  refine ⟨_, _, e3, d10, by decide +kernel, by decide +kernel, false, by (rw [show PyData.eqv (dTd 1 2 [([97], 3)]) (.tuple [.int 3, .list [.tuple [.str (S [97]), .int 3]]]) = true by decide +kernel]; rfl), iteF ?_⟩
  clear e3 d10 tv3 b3
  refine ⟨[97, 98, 97, 98, 97, 98], .non, 1, 1, 1, 1, rfl, by unfold Low; decide +kernel, by decide +kernel, .inl ⟨rfl, rfl, rfl, rfl, rfl⟩, fun r4 l4 R4 W4 q4 nl4 tv4 b4 lw4 => ?_⟩
  have e4 := told_eq (K := K) (V := [([97, 98], 3)]) (by decide) tv4 b4 (by decide +kernel)
  refine ⟨by show 2 ≤ sizeLine; decide, fun a11 m11 => ?_⟩
  have s11 := sameNew (o := .tup [.str (S [97, 98]), .int 3]) m11
  have h11 : upd R4 a11 (.tup [.str (S [97, 98]), .int 3]) a11 = some (.tup [.str (S [97, 98]), .int 3]) := upd_same
  generalize upd R4 a11 (.tup [.str (S [97, 98]), .int 3]) = L11 at s11 h11 ⊢
  replace e4 := dp_same s11 _ _ e4
  have d11 : Dp K L11 (.ref a11) (.tuple [.str (S [97, 98]), .int 3]) := .tup (.inl (.inl h11)) (.cons (.str _) (.cons (.int _) .nil))
  refine ⟨by show 1 ≤ sizeLine; decide, fun a12 m12 => ?_⟩
  have s12 := sameNew (o := .lst [.ref a11]) m12
  have h12 : upd L11 a12 (.lst [.ref a11]) a12 = some (.lst [.ref a11]) := upd_same
  generalize upd L11 a12 (.lst [.ref a11]) = L12 at s12 h12 ⊢
  replace d11 := dp_same s12 _ _ d11
  replace e4 := dp_same s12 _ _ e4
  have d12 : Dp K L12 (.ref a12) (.list [.tuple [.str (S [97, 98]), .int 3]]) := .lst (.inl (.inl h12)) (.cons d11 .nil)
  refine ⟨by show 2 ≤ sizeLine; decide, fun a13 m13 => ?_⟩
  have s13 := sameNew (o := .tup [.int 4, .ref a12]) m13
  have h13 : upd L12 a13 (.tup [.int 4, .ref a12]) a13 = some (.tup [.int 4, .ref a12]) := upd_same
  generalize upd L12 a13 (.tup [.int 4, .ref a12]) = L13 at s13 h13 ⊢
  replace d12 := dp_same s13 _ _ d12
  replace e4 := dp_same s13 _ _ e4
  have d13 : Dp K L13 (.ref a13) (.tuple [.int 4, .list [.tuple [.str (S [97, 98]), .int 3]]]) := .tup (.inl (.inl h13)) (.cons (.int _) (.cons d12 .nil))
  refine ⟨_, _, e4, d13, by decide +kernel, by decide +kernel, ?_⟩
  rw [show PyData.eqv (dTd 1 2 [([97, 98], 3)]) (.tuple [.int 4, .list [.tuple [.str (S [97, 98]), .int 3]]]) = true by decide +kernel]
  clear e4 d13 tv4 b4
  refine ⟨true, rfl, iteT ?_⟩
  rw [empty_S]
  refine ⟨[], .non, 1, 1, 1, 1, rfl, by unfold Low; decide +kernel, by decide +kernel, .inl ⟨rfl, rfl, rfl, rfl, rfl⟩, fun r5 l5 R5 W5 q5 nl5 tv5 b5 lw5 => ?_⟩
  have e5 := told_eq (K := K) (V := []) (by decide) tv5 b5 (by decide +kernel)
  refine ⟨by show 0 ≤ sizeLine; decide, fun a14 m14 => ?_⟩
  have s14 := sameNew (o := .lst []) m14
  have h14 : upd R5 a14 (.lst []) a14 = some (.lst []) := upd_same
  generalize upd R5 a14 (.lst []) = L14 at s14 h14 ⊢
  replace e5 := dp_same s14 _ _ e5
  have d14 : Dp K L14 (.ref a14) (.list []) := .lst (.inl (.inl h14)) .nil
  refine ⟨by show 2 ≤ sizeLine; decide, fun a15 m15 => ?_⟩
  have s15 := sameNew (o := .tup [.int 0, .ref a14]) m15
  have h15 : upd L14 a15 (.tup [.int 0, .ref a14]) a15 = some (.tup [.int 0, .ref a14]) := upd_same
  generalize upd L14 a15 (.tup [.int 0, .ref a14]) = L15 at s15 h15 ⊢
  replace d14 := dp_same s15 _ _ d14
  replace e5 := dp_same s15 _ _ e5
  have d15 : Dp K L15 (.ref a15) (.tuple [.int 0, .list []]) := .tup (.inl (.inl h15)) (.cons (.int _) (.cons d14 .nil))
  refine ⟨_, _, e5, d15, by decide +kernel, by decide +kernel, ?_⟩
  rw [show PyData.eqv (dTd 1 2 []) (.tuple [.int 0, .list []]) = true by decide +kernel]
  clear e5 d15 tv5 b5
  exact q _
end
end K61

set_option Elab.async false
set_option linter.all false
set_option maxRecDepth 100000
set_option maxHeartbeats 4000000
set_option exponentiation.threshold 3000
namespace K61
open PySem PySem.Spec PyProof.Rows L2 CK SX NM PySem.W
open LP (Pc leL leR leStep c1 StepOk opts Best cost Okp spell IsW)
section
variable {P : Program} {w : World} {K : PySem.W.Frag} {mg : Str → Option Value} {base : Heap} {C : Addr}
theorem law_7 (T : Txt K mg C) (f0 : Addr) (cdv : Value) (A : Around) (outer : List Env) (s0 : Shared) (H0 : Hp) (E : XK) (hr : Room 21 (A.deeper (envOfC "law" (C8.fnScope (topS 58)) s0.heap.objs.size f0 cdv))) (gd : A.guards = some []) :
    ∃ u, PSs (cxOf C8.CX0 P w K mg base ["_law_script", "_law_generator_here", "_law_signs", "_law_writer", "_law_four_here", "_law_word_here", "_law_other", "_law_prices_here", "_law_short"] "law" (C8.fnScope (topS 58)) f0 cdv A outer s0 H0 E).nox ((C8.fnBody (topS 58)).drop 7) u ∧
      ∀ (Dn : Ends) (H : Hp) (F pr : Addr) (a b c d : Nat) (v0 v1 v2 v3 v4 v5 v6 v7 v8 : Option L2.V), FourL H F a b c d → PrB C H pr a b c d → (∀ H', Dn.rt (.bl true) H') → u Dn [v0, v1, v2, v3, some (.ref F), v5, v6, some (.ref pr), v8] H := by
  obtain ⟨u, hu, tail⟩ := law_8 (P := P) (w := w) (base := base) T f0 cdv A outer s0 H0 E hr gd
  refine ⟨_, (pss_cons (ps_if (PW.pt (pw_or (pt_cmpR (op_neD hr.units) (pe_lst (pa_cons (pe_fld (pv 7) rfl) (pa_cons (pe_fld (pv 7) rfl) (pa_cons (pe_fld (pv 7) rfl) (pa_cons (pe_fld (pv 7) rfl) pa_nil))))) (pv 4) (nomark _)) (pw_or1 (pt_cmpR op_ne (C8.pe_mt (m_Prices_of T) hr (by decide) (pv 7) (pa_cons (pe_tup (pa_cons pe_int (pa_cons pe_int (pa_cons pe_int (pa_cons pe_int pa_nil))))) pa_nil)) (pe_callB (cr_sum rfl) (by rfl) T.m_sum (by decide +kernel) (pa_cons (pv 4) pa_nil)) (nomark _)))))
    (pss_one (ps_ret pe_bl))
    pss_nil)
    hu), ?_⟩
  intro Dn H F pr a b c d v0 v1 v2 v3 v4 v5 v6 v7 v8 fl pb q
  obtain ⟨dx, hp⟩ := pb.1
  have cl := T.k_Prices.ins.cl
  refine ⟨_, rfl, pr, C, dx, _, _, rfl, hp, cl, T.f_letter, fp_l a b c d, _, rfl, pr, C, dx, _, _, rfl, hp, cl, T.f_sign, fp_s a b c d, _, rfl, pr, C, dx, _, _, rfl, hp, cl, T.f_unknown, fp_u a b c d, _, rfl, pr, C, dx, _, _, rfl, hp, cl, T.f_number, fp_n a b c d, by show 4 ≤ sizeLine; decide, fun L nL => ?_⟩
  have sL := sameNew (o := .lst [.int (a : Nat), .int (b : Nat), .int (c : Nat), .int (d : Nat)]) nL
  have hL : upd H L (.lst [.int (a : Nat), .int (b : Nat), .int (c : Nat), .int (d : Nat)]) L = some (.lst [.int (a : Nat), .int (b : Nat), .int (c : Nat), .int (d : Nat)]) := upd_same
  have fl1 := fl.same sL
  have pb1 := pb.same sL
  have hp1 := sL _ _ hp
  generalize upd H L (.lst [.int (a : Nat), .int (b : Nat), .int (c : Nat), .int (d : Nat)]) = H1 at sL hL fl1 pb1 hp1 ⊢
  have sh : SeqAt.shaped (.list (([a, b, c, d] : List Nat).map fun n : Nat => PyData.int (n : Nat))) = true := by
    unfold SeqAt.shaped
    rw [PyData.canLay0, lay_nats, PyData.depth, deep_nats]
    decide
  refine ⟨_, rfl, _, _, .lst (.inl (.inl hL)) (dpAll_nats [a, b, c, d]), .lst (.inl (.inl fl1.1)) (dpAll_nats [a, b, c, d]), sh, sh, false, by (rw [SeqAt.eqv_refl _ (SeqAt.canLay_of_shaped sh)]; rfl), iteF ?_⟩
  have no : (FP a b c d).lookup ("of" : Str) = none := fp_no a b c d (by decide +kernel) (by decide +kernel) (by decide +kernel) (by decide +kernel)
  refine ⟨_, rfl, pr, dx, _, rfl, hp1, no, by show 4 ≤ sizeLine; decide, fun t nt => ?_⟩
  have st := sameNew (o := .tup [.int 1, .int 1, .int 1, .int 1]) nt
  have ht : FT (upd H1 t (.tup [.int 1, .int 1, .int 1, .int 1])) t [1, 1, 1, 1] := upd_same
  obtain ⟨_, a1, ab, bb, cb, db⟩ := pb
  have up : ∀ {n : Nat}, n < 2 ^ 150 → n < 2 ^ 200 := fun h => Nat.lt_of_lt_of_le h (by decide)
  refine ⟨pr, t, a, b, c, d, 1, 1, 1, 1, rfl, pb1.1.same st, ht, up ab, up bb, up cb, up db, by decide, by decide, by decide, by decide, fun H2 s2 => ?_⟩
  have fl2 := (fl1.same st).same s2
  refine ⟨_, rfl, F, [(a : Int), (b : Int), (c : Int), (d : Int)], rfl, .inl (.inl fl2.1), rfl, false, ?_, iteF ?_⟩
  · have e : ((dotP a b c d [1, 1, 1, 1] : Nat) : Int) = ([(a : Int), (b : Int), (c : Int), (d : Int)]).sum := by
      show ((1 * a + 1 * b + 1 * c + 1 * d : Nat) : Int) = (a : Int) + ((b : Int) + ((c : Int) + ((d : Int) + 0)))
      omega
    rw [e, decide_eq_true rfl]
    rfl
  · exact tail Dn H2 _ _ _ _ _ _ _ _ _ q
end
end K61

set_option Elab.async false
set_option linter.all false
set_option maxRecDepth 100000
set_option maxHeartbeats 4000000
set_option exponentiation.threshold 3000
namespace K61
open PySem PySem.Spec PyProof.Rows L2 CK SX NM PySem.W
open LP (Pc leL leR leStep c1 StepOk opts Best cost Okp spell IsW)
def sp_law (K : PySem.W.Frag) : Sp := fun vs H Q _ => ∃ (a : Addr) (ns : List Int), vs = [.ref a] ∧ SqL K H a (ns.map L2.V.int) ∧ ns.length ≤ 63 ∧ ∀ H', Q (.bl true) H'
theorem len_drawn : ∀ {W : List Pc}, (∀ p ∈ W, p.1.length ≤ 3 ∧ p.2 ≤ 4) → (spell W).length ≤ 12 * W.length
  | [], _ => Nat.le_refl _
  | p :: r, h => by
    have ih := len_drawn (W := r) fun q hq => h q (List.mem_cons_of_mem _ hq)
    obtain ⟨h1, h2⟩ := h p List.mem_cons_self
    rw [spell, List.length_append, LP.pw_lenP, List.length_cons]
    have := Nat.mul_le_mul h1 h2
    omega
theorem low_spell : ∀ {W : List Pc}, LowW W → Low (spell W)
  | [], _ => fun c h => nomatch h
  | p :: r, h => by
    rw [spell]
    exact low_app (low_pw (h p List.mem_cons_self) _) (low_spell fun q hq => h q (List.mem_cons_of_mem _ hq))
theorem law_end {l : PySem.W.OpenLaw} {w : World} {K : PySem.W.Frag} {mg : Str → Option Value} {fa C : Addr} (T : Txt K mg C) (hfa : mg "law" = some (.ref fa)) :
    ∃ fd : FuncData, (∀ (s : Shared) (v : Value), BindsTo s fd ⟨[v], []⟩ [("_law_script", v)]) ∧ ∀ base : Heap, K.In base → base.Ns mainGlobals mg → FnG l.prog w K mg base 22 fa fd ["_law_script"] (sp_law K) := by
  obtain ⟨f, fd, hm, hb, hF⟩ := T.d_law.oneG
  have e := hfa.symm.trans hm
  cases e
  refine ⟨fd, hb, fun base _ _ => hF sc_law (fun vs H Q E h => ?_) (fun cdv A outer s H vs Q E hr gd0 h => ?_)⟩
  · obtain ⟨_, _, rfl, _⟩ := h; rfl
  · obtain ⟨sa, ns, rfl, hS, hl, q⟩ := h
    have gd : (A.deeper (envOfC "law" (C8.fnScope (topS 58)) s.heap.objs.size fa cdv)).guards = some [] := gd0
    obtain ⟨u, hu, tail⟩ := law_7 T fa cdv A outer s H E hr gd0
    refine ⟨_, (pss_cons (ps_set (i := 1) sc_law.nd rfl (Or.inl rfl) (C8.pe_c (c_law_generator T) hr (by decide) (by rfl) (pa_cons (pv 0) (pa_cons pe_int pa_nil))))
    (pss_cons (ps_set (i := 2) sc_law.nd rfl (Or.inl rfl) (pe_slice C8.sl_txt (C8.pe_c (c_law_letters T) hr (by decide) (by rfl) (pa_cons (pv 1) pa_nil)) po_none (po_some (pe_op op_add pe_int (C8.pe_c (c_law_random T) hr (by decide) (by rfl) (pa_cons (pv 1) (pa_cons pe_int pa_nil)))))))
    (pss_cons (ps_par (i := 3) (j := 4) (by rfl) sc_law.nd rfl rfl (by decide) rfl rfl (pa_cons (C8.pe_c (c_law_parts T) hr (by decide) (by rfl) (pa_cons (pv 1) (pa_cons (pv 2) (pa_cons pe_int pa_nil)))) (pa_cons (C8.pe_c (c_law_four T) hr (by decide) (by rfl) (pa_cons (pv 1) pa_nil)) pa_nil)) (by rfl))
    (pss_cons (ps_par3 (i := 5) (j := 6) (l := 7) (by rfl) sc_law.nd rfl rfl rfl (by decide) (by decide) (by decide) rfl rfl rfl (pa_cons (C8.pe_c (c_law_spelled T) hr (by decide) (by rfl) (pa_cons (pv 3) pa_nil)) (pa_cons (C8.pe_c (c_law_word T) hr (by decide) (by rfl) (pa_cons (pv 1) (pa_cons (pv 2) (pa_cons pe_int (pa_cons pe_int pa_nil))))) (pa_cons (C8.pe_c (c_law_prices T) hr (by decide) (by rfl) (pa_cons (pv 4) pa_nil)) pa_nil))) (by rfl))
    (pss_cons (ps_if (pt_not (pt_val (pe_cG (c_law_long_right T) hr gd (by decide) (by rfl) (pa_cons (pv 4) (pa_cons (pv 7) (pa_cons (pv 5) (pa_cons (pv 3) pa_nil)))))))
    (pss_one (ps_ret pe_bl))
    pss_nil)
    (pss_cons (ps_for PassesOwn.never rfl (pi_list (pe_lst (pa_cons (pe_slice C8.sl_txt (pv 5) po_none (po_some pe_int)) (pa_cons (pv 6) (pa_cons (pe_revS (pv 6)) (pa_cons (pe_slice C8.sl_txt (pv 5) po_none (po_some pe_int)) pa_nil)))))) (pg_name (i := 8) sc_law.nd rfl (Or.inl rfl))
    (pss_one (ps_if (pt_not (pt_val (C8.pe_c (c_law_short_right T) hr (by decide) (by rfl) (pa_cons (pv 4) (pa_cons (pv 7) (pa_cons (pv 8) pa_nil))))))
    (pss_one (ps_ret pe_bl))
    pss_nil)))
    (pss_cons (ps_if (pt_not (pt_val (pe_cG (c_law_long_right T) hr gd (by decide) (by rfl) (pa_cons (pv 4) (pa_cons (pv 7) (pa_cons (pv 5) (pa_cons (pv 3) pa_nil)))))))
    (pss_one (ps_ret pe_bl))
    pss_nil)
    hu))))))), ?_⟩
    refine ⟨_, rfl, sa, ns, 0, rfl, hS, by decide, fun g H1 H2 s1 n1 s2 G2 => ?_⟩
    dsimp only
    rw [gname_eq]
    refine ⟨_, rfl, g, 90000, rfl, G2.le (by decide), fun cs H3 s3 G3 l3 lowc nd => ?_⟩
    refine ⟨_, rfl, g, 3, 80000, rfl, G3.le (by decide), by decide, by decide, fun r H4 s4 G4 r0 r1 => ⟨1, r, rfl, rfl, ?_⟩⟩
    obtain ⟨k, rfl⟩ : ∃ k : Nat, r = k := ⟨r.toNat, by omega⟩
    refine ⟨_, rfl, S cs, rfl, len_line (by omega), ?_⟩
    rw [SX.slice_to (by omega)]
    obtain ⟨sg, hsg⟩ : ∃ sg, sg = cs.take ((1 : Int) + (k : Nat)).toNat := ⟨_, rfl⟩
    have lsg : 1 ≤ sg.length ∧ sg.length ≤ 26 := by rw [hsg, List.length_take]; omega
    have nsg : sg ≠ [] := fun e => by rw [e] at lsg; exact absurd lsg.1 (by decide)
    have lowg : Low sg := by rw [hsg]; exact low_take lowc _
    rw [← hsg]
    dsimp only
    rw [gname_eq]
    refine ⟨_, rfl, _, rfl, g, sg, 70000, rfl, nsg, lsg.2, lowg, G4.le (by decide), fun L W H5 s5 G5 Lg wl dr => ?_⟩
    refine ⟨_, rfl, g, 60000, rfl, G5.le (by decide), fun F a b c d H6 s6 G6 nF hF a1 ab bb cb db => ⟨_, _, rfl, ?_⟩⟩
    obtain ⟨dl, dW⟩ := dr
    have okW : ∀ p ∈ W, Okp p := fun p hp => (dW p hp).1
    have lw : LowW W := fun p hp => (dW p hp).2.2.2
    have lsp : (spell W).length ≤ 48 := by
      have := len_drawn (W := W) fun p hp => ⟨(dW p hp).2.1, (dW p hp).2.2.1⟩
      omega
    have lowS := low_spell lw
    have wb : Wb W := ⟨okW, by omega⟩
    have wl6 : WrL H6 L W := by
      obtain ⟨vs, e, av⟩ := wl
      exact ⟨vs, s6 _ _ Lg e, av.mono fun v x g => g.mono fun b xs e => s6.tup G5 e⟩
    refine ⟨_, rfl, L, W, rfl, wl6, wb, fun H7 s7 => ?_⟩
    have G7 := G6.same s7
    refine ⟨_, rfl, _, rfl, g, sg, 50000, 0, 7, rfl, nsg, lsg.2, lowg, G7.le (by decide), by decide, by decide, fun ow H8 s8 G8 o0 o7 ol => ?_⟩
    have Fg : F ≠ g := G5.ne nF
    have hF8 := s8 _ _ Fg (s7 _ _ hF)
    refine ⟨_, rfl, F, a, b, c, d, rfl, hF8, a1, fun pr H9 s9 po => ⟨_, _, _, rfl, ?_⟩⟩
    have lt : ∀ {n : Nat}, n < 2 ^ 100 → n < 2 ^ 150 := fun h => Nat.lt_of_lt_of_le h (by decide)
    have fl9 : FourL H9 F a b c d := ⟨s9 _ _ hF8, a1, ab, bb, cb, db⟩
    have pb9 : PrB C H9 pr a b c d := ⟨po, a1, lt ab, lt bb, lt cb, lt db⟩
    have wl9 : WrL H9 L W := by
      obtain ⟨vs, e, av⟩ := wl6.same s7
      exact WrL.same ⟨vs, s8 _ _ Lg e, av.mono fun v x g => g.mono fun b xs e => s8.tup G7 e⟩ s9
    obtain ⟨z, hz⟩ : ∃ z, z = spell W := ⟨_, rfl⟩
    rw [← hz] at lsp lowS ⊢
    have iw : IsW z W := ⟨hz.symm, okW⟩
    refine ⟨_, rfl, _, rfl, _, rfl, _, rfl, F, pr, L, z, W, a, b, c, d, rfl, fl9, pb9, wl9, iw, lowS, by omega, fun H10 s10 => ⟨true, rfl, iteF ?_⟩⟩
    rw [tnext_eq]
    dsimp only
    have tz : Txt.slice (S z) none (some (7 : Int)) = S (z.take 7) := SX.slice_to (by decide)
    refine ⟨_, rfl, 7, rfl, S z, rfl, len_line (by omega), _, rfl, _, rfl, ow, rfl, by rw [sizeLine_eq]; omega, _, rfl, 7, rfl, S z, rfl, len_line (by omega), by show 4 ≤ sizeLine; decide, fun La nLa => ?_⟩
    rw [tz]
    have sLa := sameNew (o := .lst [.str (S (z.take 7)), .str (S ow), .str (S ow.reverse), .str (S (z.take 7))]) nLa
    have hLa : upd H10 La (.lst [.str (S (z.take 7)), .str (S ow), .str (S ow.reverse), .str (S (z.take 7))]) La = some (.lst [.str (S (z.take 7)), .str (S ow), .str (S ow.reverse), .str (S (z.take 7))]) := upd_same
    have s911 := s10.trans sLa
    have fl11 := fl9.same s911
    have pb11 := pb9.same s911
    have wl11 := wl9.same s911
    generalize upd H10 La (.lst [.str (S (z.take 7)), .str (S ow), .str (S ow.reverse), .str (S (z.take 7))]) = H11 at hLa fl11 pb11 wl11 ⊢
    have all : ∀ v ∈ [L2.V.str (S (z.take 7)), .str (S ow), .str (S ow.reverse), .str (S (z.take 7))], ∃ y, v = .str (S y) ∧ Low y ∧ y.length ≤ 7 := fun v hv => by
      have h1 : ∃ y, L2.V.str (S (z.take 7)) = .str (S y) ∧ Low y ∧ y.length ≤ 7 := ⟨_, rfl, low_take lowS _, by rw [List.length_take]; omega⟩
      rcases List.mem_cons.mp hv with rfl | hv
      · exact h1
      · rcases List.mem_cons.mp hv with rfl | hv
        · exact ⟨ow, rfl, ol, o7⟩
        · rcases List.mem_cons.mp hv with rfl | hv
          · exact ⟨ow.reverse, rfl, fun ch hc => ol ch (List.mem_reverse.mp hc), by rw [List.length_reverse]; exact o7⟩
          · rw [List.mem_singleton.mp hv]
            exact h1
    refine ⟨La, rfl, ⟨_, .inl (.inl hLa)⟩, for_list (K := K) (D := { nx := _, rt := Q, bk := fun _ _ => False, ct := fun _ _ => False }) (a := La) (xs := [.str (S (z.take 7)), .str (S ow), .str (S ow.reverse), .str (S (z.take 7))]) (fun i σ HH => Same H11 HH ∧ ∃ y8, σ = [some (.ref sa), some (.ref g), some (.str (S sg)), some (.ref L), some (.ref F), some (.str (S z)), some (.str (S ow)), some (.ref pr), y8]) ⟨Same.refl _, none, rfl⟩ (fun i σ HH _ p => .inl (.inl (p.1 _ _ hLa))) (fun i v σ HH hi p => ?_) (fun σ HH p => ?_)⟩
    · obtain ⟨sx, y8, rfl⟩ := p
      obtain ⟨y, rfl, yl, y7⟩ := all v (List.mem_of_getElem? hi)
      refine ⟨_, rfl, _, rfl, _, rfl, F, pr, y, a, b, c, d, rfl, fl11.same sx, pb11.same sx, yl, y7, fun H12 s12 => ⟨true, rfl, iteF ⟨sx.trans s12, _, rfl⟩⟩⟩
    · obtain ⟨sx, y8, rfl⟩ := p
      refine ⟨_, rfl, _, rfl, _, rfl, _, rfl, F, pr, L, z, W, a, b, c, d, rfl, fl11.same sx, pb11.same sx, wl11.same sx, iw, lowS, by omega, fun H12 s12 => ⟨true, rfl, iteF ?_⟩⟩
      exact tail _ H12 F pr a b c d _ _ _ _ none _ _ none _ ((fl11.same sx).same s12) ((pb11.same sx).same s12) fun H'' => q H''
end K61

open PySem PySem.W PyProof.Rows
set_option maxHeartbeats 0 in
theorem PySem.Challenge.cw_countscribe_k61_least_plain_writers_holds : PySem.Challenge.rw_countscribe_k61_least_plain_writers.Holds := by
  w_on; o_law; k_head; (case hw => w_witness2)
  k_fill
  refine CK.walkG (l := PySem.Challenge.rw_countscribe_k61_least_plain_writers) (n := 63) (k := 22) (x := "_law_script") (sp := fun w => K61.sp_law _) rfl (by decide) rfl ⟨rfl, by decide, by decide⟩ (fun w h Y => PySem.W.kIn_of Y) ?F (fun _ _ a ns hl _ hS => ⟨a, ns, rfl, hS, hl, fun _ => rfl⟩)
  case F =>
    intro w mg fa h KX G hmg
    refine' CK.with_cls KX "Prices" (CK.clF_mk KX G ?a ?pg ?hd ?po ?sa ?mk ?kp ?ha ?hn ?htk ?hm) fun k_Prices => ?_
    (case a => k_is); (case pg => k_is); (case hd => k_is); (case po => k_is); (case sa => k_is); (case mk => k_is); (case kp => k_is); (case ha => k_is); (case hn => k_is); (case htk => k_is); (case hm => k_is)
    have f_letter : L2.NoAttr _ _ "letter" := CK.noA k_Prices "letter" (by k_is)
    have f_number : L2.NoAttr _ _ "number" := CK.noA k_Prices "number" (by k_is)
    have f_sign : L2.NoAttr _ _ "sign" := CK.noA k_Prices "sign" (by k_is)
    have f_unknown : L2.NoAttr _ _ "unknown" := CK.noA k_Prices "unknown" (by k_is)
    refine' CK.with_def KX "is_whole" (K61.topS 8) ["value"] (CK.defF_mk KX G ?a ?l ?c ?k fun _ _ _ _ _ _ us hl => match us, hl with | [_], _ => rfl) fun d_is_whole => ?_
    (case a => k_is); (case l => k_is); (case c => k_is); (case k => k_is)
    refine' CK.with_def KX "is_count" (K61.topS 9) ["value"] (CK.defF_mk KX G ?a ?l ?c ?k fun _ _ _ _ _ _ us hl => match us, hl with | [_], _ => rfl) fun d_is_count => ?_
    (case a => k_is); (case l => k_is); (case c => k_is); (case k => k_is)
    refine' CK.with_def KX "is_lettered" (K61.topS 10) ["value", "most"] (CK.defF_mk KX G ?a ?l ?c ?k fun _ _ _ _ _ _ us hl => match us, hl with | [_, _], _ => rfl) fun d_is_lettered => ?_
    (case a => k_is); (case l => k_is); (case c => k_is); (case k => k_is)
    refine' CK.with_def KX "need_word" (K61.topS 11) ["value"] (CK.defF_mk KX G ?a ?l ?c ?k fun _ _ _ _ _ _ us hl => match us, hl with | [_], _ => rfl) fun d_need_word => ?_
    (case a => k_is); (case l => k_is); (case c => k_is); (case k => k_is)
    refine' CK.with_def KX "plain_form" (K61.topS 13) ["number", "many"] (CK.defF_mk KX G ?a ?l ?c ?k fun _ _ _ _ _ _ us hl => match us, hl with | [_, _], _ => rfl) fun d_plain_form => ?_
    (case a => k_is); (case l => k_is); (case c => k_is); (case k => k_is)
    refine' CK.with_def KX "turned_word" (K61.topS 15) ["word", "by"] (CK.defF_mk KX G ?a ?l ?c ?k fun _ _ _ _ _ _ us hl => match us, hl with | [_, _], _ => rfl) fun d_turned_word => ?_
    (case a => k_is); (case l => k_is); (case c => k_is); (case k => k_is)
    refine' CK.with_def KX "border_sizes" (K61.topS 16) ["word"] (CK.defF_mk KX G ?a ?l ?c ?k fun _ _ _ _ _ _ us hl => match us, hl with | [_], _ => rfl) fun d_border_sizes => ?_
    (case a => k_is); (case l => k_is); (case c => k_is); (case k => k_is)
    refine' CK.with_def KX "root_sizes" (K61.topS 17) ["word"] (CK.defF_mk KX G ?a ?l ?c ?k fun _ _ _ _ _ _ us hl => match us, hl with | [_], _ => rfl) fun d_root_sizes => ?_
    (case a => k_is); (case l => k_is); (case c => k_is); (case k => k_is)
    refine' CK.with_def KX "fixed_piece" (K61.topS 19) ["word", "many"] (CK.defF_mk KX G ?a ?l ?c ?k fun _ _ _ _ _ _ us hl => match us, hl with | [_, _], _ => rfl) fun d_fixed_piece => ?_
    (case a => k_is); (case l => k_is); (case c => k_is); (case k => k_is)
    refine' CK.with_metD k_Prices "__init__" "Prices.__init__" (L2.inClass (K61.topS 22) 0) [] [("letter", .int 1), ("sign", .int 1), ("unknown", .int 1), ("number", .int 1)] (CK.metD_mk k_Prices _ _ _ _ _ ?a ?i ?l ?c ?k ?dd ?kk) fun d_Prices___init__ => ?_
    (case a => k_is); (case i => k_is); (case l => k_is); (case c => k_is); (case k => k_is); (case dd => exact CK.dfl_nil); (case kk => (refine' CK.kwd_cons ?q0 ?r0 (CK.kwd_cons ?q1 ?r1 (CK.kwd_cons ?q2 ?r2 (CK.kwd_cons ?q3 ?r3 CK.kwd_nil))); (case q0 => k_is); (case q1 => k_is); (case q2 => k_is); (case q3 => k_is); (case r0 => first | rfl | exact ⟨_, rfl⟩); (case r1 => first | rfl | exact ⟨_, rfl⟩); (case r2 => first | rfl | exact ⟨_, rfl⟩); (case r3 => first | rfl | exact ⟨_, rfl⟩)))
    refine' CK.with_met k_Prices "of" "Prices.of" (L2.inClass (K61.topS 22) 1) ["self", "vector"] (CK.metF_mk k_Prices _ _ _ _ ?a ?i ?l ?c ?k fun _ _ _ _ _ _ us hl => match us, hl with | [_, _], _ => rfl) fun d_Prices_of => ?_
    (case a => k_is); (case i => k_is); (case l => k_is); (case c => k_is); (case k => k_is)
    refine' CK.with_def KX "need_vector" (K61.topS 23) ["value"] (CK.defF_mk KX G ?a ?l ?c ?k fun _ _ _ _ _ _ us hl => match us, hl with | [_], _ => rfl) fun d_need_vector => ?_
    (case a => k_is); (case l => k_is); (case c => k_is); (case k => k_is)
    refine' CK.with_def KX "chosen_prices" (K61.topS 24) ["value"] (CK.defF_mk KX G ?a ?l ?c ?k fun _ _ _ _ _ _ us hl => match us, hl with | [_], _ => rfl) fun d_chosen_prices => ?_
    (case a => k_is); (case l => k_is); (case c => k_is); (case k => k_is)
    refine' CK.with_def KX "piece_vector" (K61.topS 25) ["piece"] (CK.defF_mk KX G ?a ?l ?c ?k fun _ _ _ _ _ _ us hl => match us, hl with | [_], _ => rfl) fun d_piece_vector => ?_
    (case a => k_is); (case l => k_is); (case c => k_is); (case k => k_is)
    refine' CK.with_def KX "plain_steps" (K61.topS 27) ["bare", "many", "prices"] (CK.defF_mk KX G ?a ?l ?c ?k fun _ _ _ _ _ _ us hl => match us, hl with | [_, _, _], _ => rfl) fun d_plain_steps => ?_
    (case a => k_is); (case l => k_is); (case c => k_is); (case k => k_is)
    refine' CK.with_def KX "priced_step" (K61.topS 28) ["piece", "high", "prices"] (CK.defF_mk KX G ?a ?l ?c ?k fun _ _ _ _ _ _ us hl => match us, hl with | [_, _, _], _ => rfl) fun d_priced_step => ?_
    (case a => k_is); (case l => k_is); (case c => k_is); (case k => k_is)
    refine' CK.with_def KX "power_pieces" (K61.topS 29) ["spot", "low"] (CK.defF_mk KX G ?a ?l ?c ?k fun _ _ _ _ _ _ us hl => match us, hl with | [_, _], _ => rfl) fun d_power_pieces => ?_
    (case a => k_is); (case l => k_is); (case c => k_is); (case k => k_is)
    refine' CK.with_def KX "power_steps" (K61.topS 30) ["bare", "spot", "prices"] (CK.defF_mk KX G ?a ?l ?c ?k fun _ _ _ _ _ _ us hl => match us, hl with | [_, _, _], _ => rfl) fun d_power_steps => ?_
    (case a => k_is); (case l => k_is); (case c => k_is); (case k => k_is)
    refine' CK.with_def KX "best_rests" (K61.topS 31) ["bare", "spots", "many", "prices"] (CK.defF_mk KX G ?a ?l ?c ?k fun _ _ _ _ _ _ us hl => match us, hl with | [_, _, _, _], _ => rfl) fun d_best_rests => ?_
    (case a => k_is); (case l => k_is); (case c => k_is); (case k => k_is)
    refine' CK.with_def KX "filled_row" (K61.topS 32) ["entered", "steps", "row"] (CK.defF_mk KX G ?a ?l ?c ?k fun _ _ _ _ _ _ us hl => match us, hl with | [_, _, _], _ => rfl) fun d_filled_row => ?_
    (case a => k_is); (case l => k_is); (case c => k_is); (case k => k_is)
    refine' CK.with_def KX "ways_on" (K61.topS 33) ["steps", "row", "rests"] (CK.defF_mk KX G ?a ?l ?c ?k fun _ _ _ _ _ _ us hl => match us, hl with | [_, _, _], _ => rfl) fun d_ways_on => ?_
    (case a => k_is); (case l => k_is); (case c => k_is); (case k => k_is)
    refine' CK.with_def KX "best_pieces" (K61.topS 34) ["rests"] (CK.defF_mk KX G ?a ?l ?c ?k fun _ _ _ _ _ _ us hl => match us, hl with | [_], _ => rfl) fun d_best_pieces => ?_
    (case a => k_is); (case l => k_is); (case c => k_is); (case k => k_is)
    refine' CK.with_defD KX "least_plain" (K61.topS 36) [.non] [] (CK.defD_mk _ _ _ _ KX G ?a ?l ?c ?k ?dd ?kk) fun d_least_plain => ?_
    (case a => k_is); (case l => k_is); (case c => k_is); (case k => k_is); (case dd => (refine' CK.dfl_one ?dl ?dm ?dr; (case dl => k_is); (case dm => rfl); (case dr => first | rfl | exact ⟨_, rfl⟩))); (case kk => exact CK.kwd_nil)
    refine' CK.with_def KX "plain_pairs" (K61.topS 37) ["pieces"] (CK.defF_mk KX G ?a ?l ?c ?k fun _ _ _ _ _ _ us hl => match us, hl with | [_], _ => rfl) fun d_plain_pairs => ?_
    (case a => k_is); (case l => k_is); (case c => k_is); (case k => k_is)
    refine' CK.with_def KX "_law_hash" (K61.topS 39) ["_law_seed", "_law_index"] (CK.defF_mk KX G ?a ?l ?c ?k fun _ _ _ _ _ _ us hl => match us, hl with | [_, _], _ => rfl) fun d_law_hash => ?_
    (case a => k_is); (case l => k_is); (case c => k_is); (case k => k_is)
    refine' CK.with_def KX "_law_random" (K61.topS 40) ["_law_generator_here", "_law_bound"] (CK.defF_mk KX G ?a ?l ?c ?k fun _ _ _ _ _ _ us hl => match us, hl with | [_, _], _ => rfl) fun d_law_random => ?_
    (case a => k_is); (case l => k_is); (case c => k_is); (case k => k_is)
    refine' CK.with_def KX "_law_cell" (K61.topS 41) ["_law_script", "_law_index"] (CK.defF_mk KX G ?a ?l ?c ?k fun _ _ _ _ _ _ us hl => match us, hl with | [_, _], _ => rfl) fun d_law_cell => ?_
    (case a => k_is); (case l => k_is); (case c => k_is); (case k => k_is)
    refine' CK.with_def KX "_law_generator" (K61.topS 42) ["_law_script", "_law_index"] (CK.defF_mk KX G ?a ?l ?c ?k fun _ _ _ _ _ _ us hl => match us, hl with | [_, _], _ => rfl) fun d_law_generator => ?_
    (case a => k_is); (case l => k_is); (case c => k_is); (case k => k_is)
    refine' CK.with_def KX "_law_letters" (K61.topS 43) ["_law_generator_here"] (CK.defF_mk KX G ?a ?l ?c ?k fun _ _ _ _ _ _ us hl => match us, hl with | [_], _ => rfl) fun d_law_letters => ?_
    (case a => k_is); (case l => k_is); (case c => k_is); (case k => k_is)
    refine' CK.with_def KX "_law_word" (K61.topS 44) ["_law_generator_here", "_law_signs", "_law_least", "_law_most"] (CK.defF_mk KX G ?a ?l ?c ?k fun _ _ _ _ _ _ us hl => match us, hl with | [_, _, _, _], _ => rfl) fun d_law_word => ?_
    (case a => k_is); (case l => k_is); (case c => k_is); (case k => k_is)
    refine' CK.with_def KX "_law_four" (K61.topS 45) ["_law_generator_here"] (CK.defF_mk KX G ?a ?l ?c ?k fun _ _ _ _ _ _ us hl => match us, hl with | [_], _ => rfl) fun d_law_four => ?_
    (case a => k_is); (case l => k_is); (case c => k_is); (case k => k_is)
    refine' CK.with_def KX "_law_prices" (K61.topS 47) ["_law_four_here"] (CK.defF_mk KX G ?a ?l ?c ?k fun _ _ _ _ _ _ us hl => match us, hl with | [_], _ => rfl) fun d_law_prices => ?_
    (case a => k_is); (case l => k_is); (case c => k_is); (case k => k_is)
    refine' CK.with_def KX "_law_parts" (K61.topS 48) ["_law_generator_here", "_law_signs", "_law_most"] (CK.defF_mk KX G ?a ?l ?c ?k fun _ _ _ _ _ _ us hl => match us, hl with | [_, _, _], _ => rfl) fun d_law_parts => ?_
    (case a => k_is); (case l => k_is); (case c => k_is); (case k => k_is)
    refine' CK.with_def KX "_law_spelled" (K61.topS 49) ["_law_writer"] (CK.defF_mk KX G ?a ?l ?c ?k fun _ _ _ _ _ _ us hl => match us, hl with | [_], _ => rfl) fun d_law_spelled => ?_
    (case a => k_is); (case l => k_is); (case c => k_is); (case k => k_is)
    refine' CK.with_def KX "_law_pair" (K61.topS 50) ["_law_writer"] (CK.defF_mk KX G ?a ?l ?c ?k fun _ _ _ _ _ _ us hl => match us, hl with | [_], _ => rfl) fun d_law_pair => ?_
    (case a => k_is); (case l => k_is); (case c => k_is); (case k => k_is)
    refine' CK.with_def KX "_law_plain_cost" (K61.topS 51) ["_law_four_here", "_law_writer"] (CK.defF_mk KX G ?a ?l ?c ?k fun _ _ _ _ _ _ us hl => match us, hl with | [_, _], _ => rfl) fun d_law_plain_cost => ?_
    (case a => k_is); (case l => k_is); (case c => k_is); (case k => k_is)
    refine' CK.with_def KX "_law_all_writers" (K61.topS 52) ["_law_word_here"] (CK.defF_mk KX G ?a ?l ?c ?k fun _ _ _ _ _ _ us hl => match us, hl with | [_], _ => rfl) fun d_law_all_writers => ?_
    (case a => k_is); (case l => k_is); (case c => k_is); (case k => k_is)
    refine' CK.with_def KX "_law_is_plain_writer" (K61.topS 53) ["_law_word_here", "_law_writer"] (CK.defF_mk KX G ?a ?l ?c ?k fun _ _ _ _ _ _ us hl => match us, hl with | [_, _], _ => rfl) fun d_law_is_plain_writer => ?_
    (case a => k_is); (case l => k_is); (case c => k_is); (case k => k_is)
    refine' CK.with_def KX "_law_told_right" (K61.topS 54) ["_law_word_here", "_law_four_here", "_law_told"] (CK.defF_mk KX G ?a ?l ?c ?k fun _ _ _ _ _ _ us hl => match us, hl with | [_, _, _], _ => rfl) fun d_law_told_right => ?_
    (case a => k_is); (case l => k_is); (case c => k_is); (case k => k_is)
    refine' CK.with_def KX "_law_rank" (K61.topS 55) ["_law_four_here", "_law_writer"] (CK.defF_mk KX G ?a ?l ?c ?k fun _ _ _ _ _ _ us hl => match us, hl with | [_, _], _ => rfl) fun d_law_rank => ?_
    (case a => k_is); (case l => k_is); (case c => k_is); (case k => k_is)
    refine' CK.with_def KX "_law_long_right" (K61.topS 56) ["_law_four_here", "_law_prices_here", "_law_word_here", "_law_writer"] (CK.defF_mk KX G ?a ?l ?c ?k fun _ _ _ _ _ _ us hl => match us, hl with | [_, _, _, _], _ => rfl) fun d_law_long_right => ?_
    (case a => k_is); (case l => k_is); (case c => k_is); (case k => k_is)
    refine' CK.with_def KX "_law_short_right" (K61.topS 57) ["_law_four_here", "_law_prices_here", "_law_word_here"] (CK.defF_mk KX G ?a ?l ?c ?k fun _ _ _ _ _ _ us hl => match us, hl with | [_, _, _], _ => rfl) fun d_law_short_right => ?_
    (case a => k_is); (case l => k_is); (case c => k_is); (case k => k_is)
    refine' CK.with_def KX "law" (K61.topS 58) ["_law_script"] (CK.defF_mk KX G ?a ?l ?c ?k fun _ _ _ _ _ _ us hl => match us, hl with | [_], _ => rfl) fun d_law => ?_
    (case a => k_is); (case l => k_is); (case c => k_is); (case k => k_is)
    have m_all : mg "all" = none := by
      refine' PySem.W.mg_none_of KX G ?z
      (case z => k_is)
    have m_bool : mg "bool" = none := by
      refine' PySem.W.mg_none_of KX G ?z
      (case z => k_is)
    have m_enumerate : mg "enumerate" = none := by
      refine' PySem.W.mg_none_of KX G ?z
      (case z => k_is)
    have m_int : mg "int" = none := by
      refine' PySem.W.mg_none_of KX G ?z
      (case z => k_is)
    have m_isinstance : mg "isinstance" = none := by
      refine' PySem.W.mg_none_of KX G ?z
      (case z => k_is)
    have m_len : mg "len" = none := by
      refine' PySem.W.mg_none_of KX G ?z
      (case z => k_is)
    have m_list : mg "list" = none := by
      refine' PySem.W.mg_none_of KX G ?z
      (case z => k_is)
    have m_max : mg "max" = none := by
      refine' PySem.W.mg_none_of KX G ?z
      (case z => k_is)
    have m_min : mg "min" = none := by
      refine' PySem.W.mg_none_of KX G ?z
      (case z => k_is)
    have m_range : mg "range" = none := by
      refine' PySem.W.mg_none_of KX G ?z
      (case z => k_is)
    have m_repr : mg "repr" = none := by
      refine' PySem.W.mg_none_of KX G ?z
      (case z => k_is)
    have m_str : mg "str" = none := by
      refine' PySem.W.mg_none_of KX G ?z
      (case z => k_is)
    have m_sum : mg "sum" = none := by
      refine' PySem.W.mg_none_of KX G ?z
      (case z => k_is)
    have m_tuple : mg "tuple" = none := by
      refine' PySem.W.mg_none_of KX G ?z
      (case z => k_is)
    have k_MOST_LETTERS : ∃ u, mg "MOST_LETTERS" = some u ∧ L2.RelV (.int 20000) u := by
      refine' ⟨?u_MOST_LETTERS, PySem.W.mg_of KX G ?z_MOST_LETTERS, ?r_MOST_LETTERS⟩
      (case z_MOST_LETTERS => k_is)
      all_goals exact ⟨_, rfl⟩
    have k_VECTOR_SIZE : ∃ u, mg "VECTOR_SIZE" = some u ∧ L2.RelV (.int 4) u := by
      refine' ⟨?u_VECTOR_SIZE, PySem.W.mg_of KX G ?z_VECTOR_SIZE, ?r_VECTOR_SIZE⟩
      (case z_VECTOR_SIZE => k_is)
      all_goals exact ⟨_, rfl⟩
    have T : K61.Txt _ mg _ := ⟨k_Prices, f_letter, f_number, f_sign, f_unknown, d_is_whole, d_is_count, d_is_lettered, d_need_word, d_plain_form, d_turned_word, d_border_sizes, d_root_sizes, d_fixed_piece, d_Prices___init__, d_Prices_of, d_need_vector, d_chosen_prices, d_piece_vector, d_plain_steps, d_priced_step, d_power_pieces, d_power_steps, d_best_rests, d_filled_row, d_ways_on, d_best_pieces, d_least_plain, d_plain_pairs, d_law_hash, d_law_random, d_law_cell, d_law_generator, d_law_letters, d_law_word, d_law_four, d_law_prices, d_law_parts, d_law_spelled, d_law_pair, d_law_plain_cost, d_law_all_writers, d_law_is_plain_writer, d_law_told_right, d_law_rank, d_law_long_right, d_law_short_right, d_law, m_all, m_bool, m_enumerate, m_int, m_isinstance, m_len, m_list, m_max, m_min, m_range, m_repr, m_str, m_sum, m_tuple, k_MOST_LETTERS, k_VECTOR_SIZE⟩
    exact K61.law_end T hmg
