import PyProof.Rows.All
import Wide.All
import OpenK.AllK
import Wide.FinOn
import HandS.ForMost
import HandS.Wide
import HandS.WideBits
import HandS.TupAny
import HandS.TupMul
import HandS.IsInst
import HandS.Walk
import HandS.Style
import KE.GoesZip
import KE.GoesMore
import KE.GoesEnum
import HandS.Codes
import HandS.FStrTup
import PyProof.ListMulRoad
import PyProof.FactsAll.tuple_2
import PyProof.ReprLoop
import PyProof.ReprHeadsTuple
import PyProof.StrHeap
import PyProof.CallStr
import HandS.StrMore
import HandS.SortInts
import PyProof.Rows.StrRev
import PyProof.StrOps2
import KE.DataAny
import PyProof.ReprRoads
import HandS.Ends
import HandS.OwnEq
import HandS.Defaults
import HandS.MakeKwOnly
import HandS.MakeKw
import HandS.Records
import HandS.Exc
import HandS.ExcOwn
import HandS.ExcInit
import HandS.ExcField
import HandS.ExcIs
import HandS.WordsExc
import HandS.TryOnly
import KE.KExcIs
import PyProof.ReprLen
import PyProof.StrLawsRepr
import PyProof.NeKinds
import HandS.Flow
import HandS.SortKw
import KE.SortData
import HandS.More
import KE.SortKeyHeap
import PyProof.MinMaxWalk
import PyProof.WalkInts
import KE.KMinKey
import PyProof.Rows.RuleB_mul
import HandS.Conv
import PySem.Challenge.RW_countscribe_k59_whole_parts_of_texts
import HandS.DictComp
import HandS.Comp
import HandS.Dict
import HandS.ForDict
import PyProof.InstEq
set_option Elab.async false
set_option linter.all false
set_option maxRecDepth 100000
set_option maxHeartbeats 2000000
/-! rules that the layer lacks: a power of great numbers, zip over a list and a tuple in any mix -/
namespace CK
open PySem PySem.Spec PyProof.Rows L2

section
variable {X : Cx}
theorem op_powB : OpR X (binaryOp .Pow) (rI (fun i j => 0 ≤ j ∧ (Builtin.Int.intBits i : Int) * j ≤ 2 ^ 27) fun i j => .int (i ^ j.toNat)) :=
  opI fun _ _ _ _ _ _ _ c q => pow_int c.1 c.2 q
end

/-- a list, or a tuple -/
inductive Kd | L | T
def SqB (K : PySem.W.Frag) : Kd → Hp → Addr → List V → Prop
  | .L, H, a, xs => SqL K H a xs
  | .T, H, a, xs => SqT K H a xs
def HasB : Kd → Heap → Addr → Array Value → Prop
  | .L, h, a, xs => h.IsList a xs
  | .T, h, a, xs => h.IsTuple a xs
def IterB : Kd → Heap → Addr → Addr → Nat → Prop
  | .L, h, it, a, i => h.IsListIter it a i
  | .T, h, it, a, i => h.IsTupleIter it a i
def objB : Kd → Addr → Obj
  | .L, a => { cls := .type "list_iterator", data := .fields #[.ref a, .int 0 0] }
  | .T, a => { cls := .type "tuple_iterator", data := .fields #[.ref a, .int 0 0] }
theorem drawsB (k : Kd) {prog : Program} {w : World} {A : Around} (hh : A.handled = none) (it t : Addr) (ne : t ≠ it) (zs : Array Value) :
    Draws prog w A it [it, t] zs.size (fun i v => zs[i]? = some v) (fun i h => IterB k h it t i ∧ HasB k h t zs) := by
  cases k with
  | L => exact Draws.list hh it t ne zs
  | T => exact Draws.tuple hh it t ne zs
theorem beginsB (k : Kd) (t : Addr) (zs : Array Value) : Begins (.ref t) (objB k t) fun h => HasB k h t zs := by
  cases k with
  | L => exact begins_list t zs
  | T => exact begins_tuple t zs
theorem IterB.at {k : Kd} {h h' : Heap} {it a : Addr} {i : Nat} (x : IterB k h it a i) (e : ∀ o, h.get? it = some o → h'.get? it = some o) : IterB k h' it a i := by
  cases k with
  | L => exact Heap.IsListIter.at x e
  | T => exact Heap.IsTupleIter.at x e
theorem IterB.there {k : Kd} {h : Heap} {it a : Addr} {i : Nat} (x : IterB k h it a i) : ∃ o, h.get? it = some o ∧ ∀ v, o.data ≠ .cell v := by
  cases k with
  | L =>
    obtain ⟨o, e, _, d⟩ := x
    exact ⟨o, e, fun v z => by rw [d] at z; cases z⟩
  | T =>
    obtain ⟨o, e, _, d⟩ := x
    exact ⟨o, e, fun v z => by rw [d] at z; cases z⟩
theorem IterB.new {k : Kd} {h : Heap} {it a : Addr} (e : h.get? it = some (objB k a)) : IterB k h it a 0 := by
  cases k with
  | L => exact ⟨_, e, rfl, rfl⟩
  | T => exact ⟨_, e, rfl, rfl⟩
theorem SqB.get {X : Cx} {pins : List (Addr × Obj)} {σ : L2.St} {H : Hp} {s : Shared} {k : Kd} {a : Addr} {xs : List V} (I : Inv X pins σ H s) (h : SqB X.K k H a xs) :
    ∃ zs : List Value, Vals xs zs ∧ HasB k s.heap a zs.toArray ∧ a < s.heap.objs.size := by
  cases k with
  | L =>
    obtain ⟨zs, r, p, _⟩ := I.list h
    exact ⟨zs, r, p.isList, p.lt⟩
  | T =>
    obtain ⟨zs, r, p, _⟩ := I.tuple h
    exact ⟨zs, r, p, p.lt⟩
theorem SqB.inj {X : Cx} {pins : List (Addr × Obj)} {σ : L2.St} {H : Hp} {s : Shared} {k : Kd} {a : Addr} {xs ys : List V} (I : Inv X pins σ H s) (h : SqB X.K k H a xs) (h' : SqB X.K k H a ys) : xs = ys := by
  cases k with
  | L => exact I.list_inj h h'
  | T => exact I.tuple_inj h h'

/-- both as they stand at each turn, the items in new pairs -/
def ItB (K : PySem.W.Frag) (k k' : Kd) (a b : Addr) : It :=
  ⟨fun i H => ∃ (xs ys : List V) (x y : V), SqB K k H a xs ∧ SqB K k' H b ys ∧ xs[i]? = some x ∧ ys[i]? = some y,
    fun i H v H' => ∃ T x y, v = .ref T ∧ H T = none ∧ H' = upd H T (.tup [x, y]) ∧ (∀ xs, SqB K k H a xs → xs[i]? = some x) ∧ ∀ ys, SqB K k' H b ys → ys[i]? = some y,
    fun i H => ∃ xs ys : List V, SqB K k H a xs ∧ SqB K k' H b ys ∧ i ≤ xs.length ∧ i ≤ ys.length ∧ (i = xs.length ∨ i = ys.length)⟩
theorem five {z TI TO i1 i2 c : Addr} (h : c ∈ [z, TI, TO, i1, i2]) : c = z ∨ c = TI ∨ c = TO ∨ c = i1 ∨ c = i2 := by simpa using h
theorem turnB {P : Program} {w : World} {K : PySem.W.Frag} {elts : List Expr} {kk : Nat} {tp : Pos} {k k' : Kd} {a b z TI TO i1 i2 : Addr} (S : ZipSep2 z TI TO i1 i2 [i1, a] [i2, b]) (na : a ≠ i1) (nb : b ≠ i2) :
    Turn P w K (.Tuple elts kk tp) (ItB K k k' a b) [z, TI, TO, i1, i2] z
      (fun i h => IsZip h z TI TO .none ∧ IsTupOf2 h TI (.ref i1) (.ref i2) ∧ (∃ x y, IsTupOf2 h TO x y) ∧ IterB k h i1 a i ∧ IterB k' h i2 b i) where
  mem := by simp
  obj := fun i h st c hc => by
    obtain ⟨hz, hI, ⟨x, y, hO⟩, h1, h2⟩ := st
    rcases five hc with q | q | q | q | q <;> subst q
    · exact ⟨_, hz, fun v q => nomatch q⟩
    · exact ⟨_, hI, fun v q => nomatch q⟩
    · exact ⟨_, hO, fun v q => nomatch q⟩
    · exact h1.there
    · exact h2.there
  keep := fun i h h' st q => by
    obtain ⟨hz, hI, ⟨x, y, hO⟩, h1, h2⟩ := st
    exact ⟨q z (by simp) _ hz, q TI (by simp) _ hI, ⟨x, y, q TO (by simp) _ hO⟩, h1.at (q i1 (by simp)), h2.at (q i2 (by simp))⟩
  item := by
    intro X hP hw hK hc i pins s σ H E I hf st hg
    subst hP hw hK
    obtain ⟨hz, hI, ⟨x0, y0, hO⟩, h1, h2⟩ := st
    obtain ⟨xs, ys, x, y, qx, qy, hx, hy⟩ := hg
    obtain ⟨zs, r1, p1, la⟩ := SqB.get I qx
    obtain ⟨zs', r2, p2, lb⟩ := SqB.get I qy
    obtain ⟨u, hu, ru⟩ := r1.get hx
    obtain ⟨u2, hu2, ru2⟩ := r2.get hy
    have z0 : z < s.heap.objs.size := Heap.lt_size hz
    have l1 : i < zs.toArray.size := by
      obtain ⟨q, _⟩ := List.getElem?_eq_some_iff.mp hu
      simpa using q
    have l2 : i < zs'.toArray.size := by
      obtain ⟨q, _⟩ := List.getElem?_eq_some_iff.mp hu2
      simpa using q
    have hh : X.A.in1.handled = none := I.ok.hd hc
    refine wpAny_pyNext_zipD2_item S (drawsB k hh i1 a na zs.toArray) (drawsB k' hh i2 b nb zs'.toArray) hz hI hO ⟨h1, p1⟩ ⟨h2, p2⟩ l1 l2 fun x1 x2 h' tk e1 e2 z' TO' t1 t2 hT hsz hk => ?_
    have e1' : x1 = u := by
      have q : zs[i]? = some x1 := by simpa using e1
      exact Option.some.inj (q.symm.trans hu)
    have e2' : x2 = u2 := by
      have q : zs'[i]? = some x2 := by simpa using e2
      exact Option.some.inj (q.symm.trans hu2)
    subst e1' e2'
    refine ⟨_, rfl, wpAny_letOwnedTupleGo_zip (s := { s with heap := h', toks := tk }) z' fun h'' z'' sb => ?_⟩
    have hT2 : h''.get? s.heap.objs.size = some { cls := .type "tuple", data := .seq #[x1, x2] } := (sb.2 _ (Nat.ne_of_gt z0)).trans hT
    have new : ObjOk X.prog X.w (upd H s.heap.objs.size (.tup [x, y])) h'' s.heap.objs.size (.tup [x, y]) :=
      ⟨by show 2 ≤ sizeLine; decide, [x1, x2], .cons ru (.cons ru2 .nil), ⟨_, hT2, rfl, _, rfl⟩⟩
    have I1 : Inv X pins σ (upd H s.heap.objs.size (.tup [x, y])) { s with heap := h'', toks := tk } :=
      I.turnedNew (ch := [z, TI, TO, i1, i2]) (fun c o hb q => by
        have n : c ≠ z ∧ c ≠ TI ∧ c ≠ TO ∧ c ≠ i1 ∧ c ≠ i2 := by simpa using hb
        exact (sb.2 c n.1).trans (hk c o n.1 n.2.2.1 n.2.2.2.1 n.2.2.2.2 q)) hf (Nat.le_refl _) new
    refine ⟨.ref s.heap.objs.size, _, I1, rfl, ⟨_, x, y, rfl, I.hok.fresh (Nat.le_refl _), rfl, fun l hl => by rw [SqB.inj I hl qx]; exact hx, fun l hl => by rw [SqB.inj I hl qy]; exact hy⟩, ⟨z'', ?_, ⟨x1, x2, ?_⟩, ?_, ?_⟩, fun c hcm => ?_⟩
    · exact (sb.2 _ S.TIz).trans (hk _ _ S.TIz S.TITO S.TIi1 S.TIi2 hI)
    · exact (sb.2 _ S.TOz).trans TO'
    · exact t1.1.at fun o q => (sb.2 _ S.zi1.symm).trans q
    · exact t2.1.at fun o q => (sb.2 _ S.zi2.symm).trans q
    · have lt : c < s.heap.objs.size := by
        rcases five hcm with q | q | q | q | q <;> subst q
        · exact z0
        · exact Heap.lt_size hI
        · exact Heap.lt_size hO
        · obtain ⟨_, e, _⟩ := h1.there
          exact Heap.lt_size e
        · obtain ⟨_, e, _⟩ := h2.there
          exact Heap.lt_size e
      rw [upd_ne (Nat.ne_of_lt lt)]
      exact (hf c hcm).1
  done := by
    intro X hP hw hK hc i pins s σ H E I hf st hg
    subst hP hw hK
    obtain ⟨hz, hI, ⟨x0, y0, hO⟩, h1, h2⟩ := st
    obtain ⟨xs, ys, qx, qy, m1, m2, hend⟩ := hg
    obtain ⟨zs, r1, p1, la⟩ := SqB.get I qx
    obtain ⟨zs', r2, p2, lb⟩ := SqB.get I qy
    have e1 : zs.toArray.size = xs.length := by rw [List.size_toArray]; exact r1.length.symm
    have e2 : zs'.toArray.size = ys.length := by rw [List.size_toArray]; exact r2.length.symm
    have hh : X.A.in1.handled = none := I.ok.hd hc
    exact wpAny_pyNext_zipD2_end S (drawsB k hh i1 a na zs.toArray) (drawsB k' hh i2 b nb zs'.toArray) hz hI hO ⟨h1, p1⟩ ⟨h2, p2⟩ (by omega) (by omega) (by omega) fun h' tk hk =>
      ⟨rfl, I.turnedL (ch := [z, TI, TO, i1, i2]) (fun c o hb q => by
        have n : c ≠ z ∧ c ≠ TI ∧ c ≠ TO ∧ c ≠ i1 ∧ c ≠ i2 := by simpa using hb
        exact hk c o n.1 n.2.2.1 n.2.2.2.1 n.2.2.2.2 q) hf⟩
  self := fun A i s Q E st h => wpAny_pyIter_zip st.1 h

def iZipB (K : PySem.W.Frag) (ta : TA) : TI := fun σ H R => ta σ H fun vs H1 => ∃ (k k' : Kd) (a b : Addr) (xs ys : List V), vs = [.ref a, .ref b] ∧ SqB K k H1 a xs ∧ SqB K k' H1 b ys ∧ R (ItB K k k' a b) H1
theorem pi_zipB {X : Cx} {K : PySem.W.Frag} {e e2 : Expr} {ta : TA} {p pos tp : Pos} {elts : List Expr} {kk : Nat} (hK : X.K = K) (hg : Gl X "zip") (hm : X.mg "zip" = none) (ha : PA X [e, e2] ta)
    (hs : starEach [e, e2] X.env = (false, eval e X.env) :: starEach [e2] X.env := by rfl) (hpl : (backTo pos (starEach [e2] X.env)).any (·.1) = false := by rfl) :
    PI X (.Tuple elts kk tp) (.Call (.Name "zip" p) [e, e2] [] pos) (iZipB K ta) := by
  subst hK
  refine ⟨fun pins s σ H R I h => Call_ (ld_blt I hg hm PyProof.Rows.boot_zip (callWith_type1 (thn (ha.run pos pins s σ H _ I h) fun us s1 q => ?_) hs hpl))⟩
  obtain ⟨vs, H1, I1, r1, k, k', a, b, xs, ys, rfl, qx, qy, q⟩ := q
  cases r1 with
  | cons r rr =>
  cases rr with
  | cons r' rr =>
  cases rr
  cases r
  cases r'
  obtain ⟨zs, _, p1, la⟩ := SqB.get I1 qx
  obtain ⟨zs', _, p2, lb⟩ := SqB.get I1 qy
  refine zip_begins2 (beginsB k a zs.toArray) (beginsB k' b zs'.toArray) p1 p2 fun h' hz hI hO o1 o2 hsz hk => wpAny_pyIter_zip hz ?_
  have S := zip_sep2 (N := s1.heap.objs.size) (fp1 := [a]) (fp2 := [b]) (fun c hc => by rw [List.mem_singleton.mp hc]; exact la) (fun c hc => by rw [List.mem_singleton.mp hc]; exact lb)
  refine ⟨s1.heap.objs.size + 4, _, _, _, H1, rfl, I1.kept (t' := s1.toks) hk, turnB S (Nat.ne_of_lt la) (Nat.ne_of_lt (Nat.lt_succ_of_lt lb)), ⟨hz, hI, ⟨_, _, hO⟩, .new o1, .new o2⟩, fun c hc => ?_, q⟩
  have le : s1.heap.objs.size ≤ c := by
    rcases five hc with z | z | z | z | z <;> subst z <;> first | exact Nat.le_add_right _ _ | exact Nat.le_refl _
  exact I1.fpOk le (I1.hok.fresh le)
theorem walkB {K : PySem.W.Frag} {k k' : Kd} {a b : Addr} {xs ys : List V} (hl : xs.length = ys.length) :
    Walk (ItB K k k' a b) xs.length (fun H => SqB K k H a xs ∧ SqB K k' H b ys) (YPair (fun i => xs[i]?) (fun i => ys[i]?)) := by
  refine ⟨fun i H hi q => ?_, fun H q => ⟨xs, ys, q.1, q.2, Nat.le_refl _, Nat.le_of_eq hl, .inl rfl⟩, fun i H v H' _ q y => ?_⟩
  · have h2 : i < ys.length := by omega
    exact ⟨xs, ys, xs[i], ys[i], q.1, q.2, by simp [hi], by simp [h2]⟩
  · obtain ⟨T, x, z, h1, h2, h3, h4, h5⟩ := y
    exact ⟨T, x, z, h1, h2, h3, h4 xs q.1, h5 ys q.2⟩
end CK

set_option Elab.async false
set_option linter.all false
set_option maxRecDepth 100000
set_option maxHeartbeats 4000000
namespace CK
open PySem PySem.Spec PyProof.Rows L2
theorem mulFill : fillsNumberSlot (.type "tuple") "mul" = pure false :=
  PySem.fillsNumberSlot_seq (r := some (.builtin "tuple.__rmul__")) (id := "tuple.__mul__") PySem.F.slot_tuple_mul.lookup (by decide +kernel)
    PySem.F.slot_tuple_rmul.lookup (by decide +kernel)
theorem mulSeq : seqRepeat? (.type "tuple") = pure (some (.builtin "tuple.__mul__")) := by
  unfold seqRepeat?
  rw [PySem.seqSlot_of (name := "__mul__") (id := "tuple.__mul__") (T := "tuple") PySem.F.slot_tuple_mul.lookup (by decide +kernel),
    PySem.seqSlot_of (name := "__rmul__") (id := "tuple.__rmul__") (T := "tuple") PySem.F.slot_tuple_rmul.lookup (by decide +kernel)]
  rfl
theorem rmulNo (a : Int) (t : Tok) (l : Addr) (zs : Array Value) (n : Nat) (dd : Option Addr) (sl : Array (Option Value)) :
    Meets (Builtin.«int.__rmul__» ⟨[.int a t, .ref l], []⟩) (fun _ R s =>
      s.heap.get? l = some { cls := .type "tuple", dict := dd, data := .seq zs n, slots := sl } ∧ R (.ok (.ret Value.notImplemented)) s) := by
  refine Meets.of_wp fun prog w A R s h => ?_
  obtain ⟨hq, g, d, tk, o2⟩ := s
  obtain ⟨hl, h⟩ := h
  wp_walk using wpAny_loadPart' hl
  exact ⟨_, rfl, h⟩
/-- one item, no times: a new empty tuple -/
theorem mul0 (l : Addr) (v : Value) (n : Nat) (dd : Option Addr) (sl : Array (Option Value)) (u : Tok) :
    Meets (Builtin.«tuple.__mul__» ⟨[.ref l, .int 0 u], []⟩) (fun _ R s =>
      s.heap.get? l = some { cls := .type "tuple", dict := dd, data := .seq #[v] n, slots := sl } ∧
      R (.ok (.ret (Value.ref s.heap.objs.size))) { s with heap := s.heap.push { cls := Value.type "tuple", data := Data.seq #[] } }) := by
  refine Meets.of_wp fun prog w A R s h => ?_
  obtain ⟨hq, g, d, tk, o2⟩ := s
  obtain ⟨hl, h⟩ := h
  have f1 := AutoSeq1.idx_int
  wp_walk using wpAny_loadPart' hl
  exact ⟨_, rfl, h⟩
/-- one item, once: the tuple itself -/
theorem mul1 (l : Addr) (v : Value) (n : Nat) (dd : Option Addr) (sl : Array (Option Value)) (u : Tok) :
    Meets (Builtin.«tuple.__mul__» ⟨[.ref l, .int 1 u], []⟩) (fun _ R s =>
      s.heap.get? l = some { cls := .type "tuple", dict := dd, data := .seq #[v] n, slots := sl } ∧ R (.ok (.ret (Value.ref l))) s) := by
  refine Meets.of_wp fun prog w A R s h => ?_
  obtain ⟨hq, g, d, tk, o2⟩ := s
  obtain ⟨hl, h⟩ := h
  have f1 := AutoSeq1.idx_int
  have f2 : (⟨hq, g, d, tk, o2⟩ : Shared).TypeIs (.ref l) "tuple" := ⟨_, hl, rfl⟩
  wp_walk using wpAny_loadPart' hl, wpAny_typeOf f2
  exact ⟨_, rfl, h⟩
section
variable {X : Cx}
theorem sameNew {H : Hp} {p : Addr} {o : HO} (h : H p = none) : Same H (upd H p o) := fun b z e => by
  rw [upd_ne (ne_of_none e h)]
  exact e
/-- one item, k times: 0 or 1 -/
def rRep01 : R2 := fun x y H Q => ∃ (l : Addr) (k : Int) (v : V), x = .ref l ∧ y = .int k ∧ H l = some (.tup [v]) ∧ (k = 0 ∨ k = 1) ∧
  ∀ p H', Same H H' → H' p = some (.tup (List.replicate k.toNat v)) → Q (.ref p) H'
theorem op_rep01 : OpR X (binaryOp .Mult) rRep01 := by
  intro pins s σ H x y xv yv Q I rx ry h
  obtain ⟨l, k, v, rfl, rfl, hl, hk, q⟩ := h
  cases rx
  obtain ⟨t, rfl⟩ := ry
  obtain ⟨zs, r, ⟨⟨cl, dd, da, sl⟩, ho, hc, n, hd⟩, hs⟩ := I.tuple (.inl (.inl hl) : SqT X.K H l [v])
  simp only at hc hd
  subst hc hd
  cases r with
  | cons r1 r2 =>
  cases r2
  rename_i u
  rcases hk with e | e <;> subst e
  · refine wpAny_binaryOp_repeat_ref (T := "tuple") (U := "int") (by decide) ⟨_, ho, rfl⟩ (fun s' => typeIs_int s' 0 t) mulFill F.fills_int_mul F.slot_int_rmul mulSeq F.slot_int_index.lookup
      (call_meets F.slot_int_rmul (typeIs_int s 0 t) F.entry_int_rmul (F.args_int_rmul_2 _ _) (rmulNo 0 t l _ n dd sl)
        ⟨ho, rfl, ⟨_, ho, rfl⟩, call_meets F.slot_tuple_mul ⟨_, ho, rfl⟩ F.entry_tuple_mul (F.args_tuple_mul_2 _ _) (mul0 l _ n dd sl t) ⟨ho, ?_⟩⟩)
    have hn : H s.heap.objs.size = none := I.hok.fresh (Nat.le_refl _)
    refine ⟨.ref s.heap.objs.size, _, I.laid (t' := s.toks) (o := .tup []) (fun b ob q => Heap.get?_push_of_some _ q) (Nat.le_refl _) ?_, rfl, q _ _ (sameNew hn) upd_same⟩
    exact ⟨Nat.zero_le _, [], .nil, IsTup.new _ _⟩
  · exact wpAny_binaryOp_repeat_ref (T := "tuple") (U := "int") (by decide) ⟨_, ho, rfl⟩ (fun s' => typeIs_int s' 1 t) mulFill F.fills_int_mul F.slot_int_rmul mulSeq F.slot_int_index.lookup
      (call_meets F.slot_int_rmul (typeIs_int s 1 t) F.entry_int_rmul (F.args_int_rmul_2 _ _) (rmulNo 1 t l _ n dd sl)
        ⟨ho, rfl, ⟨_, ho, rfl⟩, call_meets F.slot_tuple_mul ⟨_, ho, rfl⟩ F.entry_tuple_mul (F.args_tuple_mul_2 _ _) (mul1 l _ n dd sl t)
          ⟨ho, ⟨.ref l, H, I, rfl, q l H (Same.refl H) hl⟩⟩⟩)
/-! ### str(tuple of whole numbers): some text -/
theorem reprInts {prog : Program} {w : World} : ∀ {ns : List Int} {zs : List Value}, Vals (ns.map V.int) zs → (∀ n ∈ ns, n.natAbs.log2 < 1920) → ReprAll prog w zs (ns.map fun n => (toString n : Str))
  | [], _, r, _ => by
    cases r
    exact .nil
  | n :: l, _, r, h => by
    cases r with
    | cons r1 r2 =>
    obtain ⟨t, rfl⟩ := r1
    exact .cons (ReprIs.int t (h n List.mem_cons_self)) (reprInts r2 fun z hz => h z (List.mem_cons_of_mem _ hz))
end
end CK
namespace CK
open PySem PySem.Spec PyProof.Rows L2
section
variable {X : Cx}
/-- one item, k times -/
def rRepOne (K : PySem.W.Frag) : R2 := fun x y H Q => ∃ (l : Addr) (k : Int) (v : V), x = .ref l ∧ y = .int k ∧ H l = some (.tup [v]) ∧ 0 ≤ k ∧ k ≤ 1000 ∧
  ∀ p H', Same H H' → H' p = some (.tup (List.replicate k.toNat v)) → Q (.ref p) H'
theorem flat_rep {α : Type} (v : α) : ∀ n : Nat, (List.replicate n [v]).flatten = List.replicate n v
  | 0 => rfl
  | n + 1 => by rw [List.replicate_succ, List.flatten_cons, flat_rep v n, List.replicate_succ]; rfl
theorem op_repOne : OpR X (binaryOp .Mult) (rRepOne X.K) := by
  intro pins s σ H x y xv yv Q I rx ry h
  obtain ⟨l, k, v, rfl, rfl, hl, h0, h1, q⟩ := h
  by_cases hk : k = 0 ∨ k = 1
  · exact op_rep01 pins s σ H _ _ xv yv Q I rx ry ⟨l, k, v, rfl, rfl, hl, hk, q⟩
  · refine op_repT pins s σ H _ _ xv yv Q I rx ry ⟨l, k, [v], rfl, rfl, .inl (.inl hl), List.cons_ne_nil _ _, by omega, h1, by show 1 ≤ 1000; omega, fun p hp => q p _ (sameNew hp) ?_⟩
    rw [upd_same, flat_rep]
/-- str of a tuple of whole numbers: some text -/
theorem call_str_tup {k : Nat} (hr : Room k X.A) : CallR X (.type "str") (fun xs H Q => ∃ (a : Addr) (ns : List Int), xs = [.ref a] ∧ H a = some (.tup (ns.map V.int)) ∧ ns.length ≤ 100 ∧ (∀ n ∈ ns, n.natAbs.log2 < 1920) ∧ ∀ m : Str, Q (.str m) H) := by
  intro pins s σ H xs us Q I r h
  obtain ⟨a, ns, rfl, ha, hl, hn, q⟩ := h
  obtain ⟨u, rfl, rx⟩ := vals1 r
  cases rx
  obtain ⟨zs, rv, ⟨o, ho, hc, n, hd⟩, hz⟩ := I.tuple (.inl (.inl ha) : SqT X.K H a _)
  have hu := hr.units
  have hT : ReprAll X.prog X.w zs.toArray.toList (ns.map fun n => (toString n : Str)) := by simpa using reprInts rv hn
  have hp : ∀ l : List Int, (∀ n ∈ l, n.natAbs.log2 < 1920) → piled (l.map fun n => (toString n : Str)) ≤ l.length * 1923 := by
    intro l
    induction l with
    | nil => intro _; exact Nat.le_refl _
    | cons z l ih =>
      intro h
      have a1 := int_text_length_le (a := z) (k := 1920) (by omega) (h z List.mem_cons_self)
      have a2 := ih fun n hn => h n (List.mem_cons_of_mem _ hn)
      rw [List.map_cons, piled_cons, List.length_cons]
      have a3 : ((toString z : Str)).length = (toString z).length := PySem.ofString_length _
      omega
  have h1 := fmt_text (ns.map fun n => (toString n : Str))
  have h2 := hp ns hn
  have h3 : ns.length * 1923 ≤ 192300 := by omega
  have h4 : (tupleText (ns.map fun n => (toString n : Str))).length ≤ sizeLine := by
    rw [sizeLine_eq]
    omega
  refine callType_new F.called_str (by decide) (F.typeCall_str_1 _) (F.newCall_str_1 _) (fun obj => F.args_object_init_2 obj _) F.entry_str_new
    (meets_str_new (S := fun A' R s' => A'.units + 4 < cLine ∧ s'.heap.get? a = some o ∧ ∀ (m : Str) (u tk : Tok), R (.ok (.ret (.str m u))) { s' with toks := tk }) fun prog w A' R s' h =>
      wpAny_strOf_slot rfl (by show A'.units + 1 + 1 < cLine; have := h.1; omega) ⟨o, h.2.1, hc⟩ F.slot_tuple_str F.slot_tuple_repr
        (fmt_tuple_repr h.2.1 hc hd ?_ h4 fun m u tk _ => ⟨m, u, rfl, h.2.2 m u tk⟩))
    ⟨by show X.A.units + 1 + 4 < cLine; omega, ho, fun m u tk => ⟨typeIs_str _ _ _, .str m, H, I.tok _, ⟨u, rfl⟩, q m⟩⟩
  exact by simpa using reprInts rv hn
end
end CK

set_option Elab.async false
set_option linter.all false
set_option maxRecDepth 100000
set_option maxHeartbeats 2000000
namespace CK
open PySem PySem.Spec PyProof.Rows L2
/-! ### a def as it stands behind the top, and its promise by its body -/
structure DefF (K : PySem.W.Frag) (mg : Str → Option Value) (x : Str) (st : Stmt) (ps : List Str) : Prop where
  ex : ∃ (f : Addr) (fd : FuncData), C8.Def K mg x st f fd ∧ ∀ us : List Value, us.length = ps.length → bindArgs fd ⟨us, []⟩ = pure (ps.zip us)
theorem defF_mk {K : PySem.W.Frag} {h : Heap} {mg : Str → Option Value} {x : Str} {st : Stmt} {ps : List Str} {f : Addr} {od an : Option Addr} {oc kV dc pm cd ct : Value} {sl : Array (Option Value)}
    (X : K.In h) (G : h.Ns mainGlobals mg) (a : PySem.W.nsIn K mainGlobals x = some (some (.ref f)))
    (l : K.lookup f = some ⟨oc, od, .func (PySem.W.fnOf x x (C8.fnArgs st) (C8.fnBody st) (C8.fnScope st) .none kV dc pm an cd ct), sl⟩)
    (c : PySem.W.codeIn K cd x = true) (k : PySem.W.keepIn K (.ref f) = true)
    (hb : ∀ (kV doc pm : Value) (an : Option Addr) (cdv ct : Value) (us : List Value), us.length = ps.length →
      bindArgs (PySem.W.fnOf x x (C8.fnArgs st) (C8.fnBody st) (C8.fnScope st) .none kV doc pm an cdv ct) ⟨us, []⟩ = pure (ps.zip us)) : DefF K mg x st ps :=
  ⟨f, _, ⟨⟨oc, od, .none, kV, dc, pm, an, cd, ct, sl, rfl, l, c⟩, PySem.W.mg_of X G a, k⟩, hb kV dc pm an cd ct⟩
theorem calF {P : Program} {w : World} {K : PySem.W.Frag} {mg : Str → Option Value} {base : Heap} {x : Str} {st : Stmt} {N ps : List Str} {k : Nat} {sp : Sp} (D : DefF K mg x st ps) (S : FnScope N ps (C8.fnScope st))
    (len : ∀ vs H Q E, sp vs H Q E → vs.length = ps.length)
    (hbody : ∀ (f : Addr) (cdv : Value) (A : Around) (outer : List Env) (s : Shared) (H : Hp) (vs : List V) (Q : VK) (E : XK), Room k (A.deeper (envOfC x (C8.fnScope st) s.heap.objs.size f cdv)) → sp vs H Q E →
      ∃ t, PSs (cxOf C8.CX0 P w K mg base N x (C8.fnScope st) f cdv A outer s H E).nox (C8.fnBody st) t ∧ t { nx := fun _ H' => Q .non H', rt := Q } (start N vs) H) : C8.Cal P w K mg base (k + 1) x sp [] := by
  obtain ⟨f, fd, F, b⟩ := D.ex
  exact C8.cal0 F (.all b) .nil S len (hbody f)
/-- a def of one parameter as it stands, for the law's end -/
theorem DefF.one {K : PySem.W.Frag} {mg : Str → Option Value} {x p : Str} {st : Stmt} (D : DefF K mg x st [p]) : ∃ (f : Addr) (fd : FuncData), mg x = some (.ref f) ∧ (∀ (s : Shared) (v : Value), BindsTo s fd ⟨[v], []⟩ [(p, v)]) ∧
    ∀ {P : Program} {w : World} {base : Heap} {N : List Str} {k : Nat} {sp : Sp} (S : FnScope N [p] (C8.fnScope st)) (len : ∀ vs H Q E, sp vs H Q E → vs.length = 1)
      (hbody : ∀ (f : Addr) (cdv : Value) (A : Around) (outer : List Env) (s : Shared) (H : Hp) (vs : List V) (Q : VK) (E : XK), Room k (A.deeper (envOfC x (C8.fnScope st) s.heap.objs.size f cdv)) → sp vs H Q E →
        ∃ t, PSs (cxOf C8.CX0 P w K mg base N x (C8.fnScope st) f cdv A outer s H E).nox (C8.fnBody st) t ∧ t { nx := fun _ H' => Q .non H', rt := Q } (start N vs) H), FnOk P w K mg base C8.CX0 (k + 1) f fd [p] sp := by
  obtain ⟨f, fd, F, b⟩ := D.ex
  exact ⟨f, fd, F.mgf, fun s v => .of_eq (b [v] rfl), fun S len hbody => C8.fn0 F.fn S len (hbody f)⟩

theorem with_def {K : PySem.W.Frag} {h : Heap} {mg : Str → Option Value} (_ : K.In h) (x : Str) (st : Stmt) (ps : List Str) {R : Prop} (d : DefF K mg x st ps) (r : DefF K mg x st ps → R) : R := r d
/-! ### heaps -/
/-- all that was tracked is as it was, but for g -/
def SameX (g : Addr) (H H' : Hp) : Prop := ∀ b o, b ≠ g → H b = some o → H' b = some o
theorem SameX.refl (g : Addr) (H : Hp) : SameX g H H := fun _ _ _ h => h
theorem SameX.trans {g : Addr} {H H1 H2 : Hp} (a : SameX g H H1) (b : SameX g H1 H2) : SameX g H H2 := fun c o n h => b c o n (a c o n h)
theorem SameX.of {g : Addr} {H H1 : Hp} (a : Same H H1) : SameX g H H1 := fun c o _ h => a c o h
theorem sameX_upd {g : Addr} {H : Hp} {o : HO} : SameX g H (upd H g o) := fun b z n e => by
  rw [upd_ne n]
  exact e
theorem same_upd2 {H H1 : Hp} {D : Addr} {o : HO} (hD : H D = none) (s : Same H H1) : Same H (upd H1 D o) := fun b z e => by
  rw [upd_ne (ne_of_none e hD)]
  exact s b z e

/-! ### what a value is -/
/-- the built-in type of a value that is known -/
def tnm (H : Hp) : V → String
  | .non => "NoneType"
  | .bl _ => "bool"
  | .int _ => "int"
  | .str _ => "str"
  | .ref a => match H a with
    | some (.lst _) => "list"
    | some (.tup _) => "tuple"
    | _ => "?"
  | _ => "?"
theorem tnm_tup {H : Hp} {a : Addr} {xs : List V} (h : H a = some (.tup xs)) : tnm H (.ref a) = "tuple" := by
  simp only [tnm, h]
theorem tnm_lst {H : Hp} {a : Addr} {xs : List V} (h : H a = some (.lst xs)) : tnm H (.ref a) = "list" := by
  simp only [tnm, h]
/-- a value whose type is known -/
inductive Kn (H : Hp) : V → Prop
  | non : Kn H .non
  | bl (b : Bool) : Kn H (.bl b)
  | int (i : Int) : Kn H (.int i)
  | str (x : Str) : Kn H (.str x)
  | lst {a : Addr} {xs : List V} (e : H a = some (.lst xs)) : Kn H (.ref a)
  | tup {a : Addr} {xs : List V} (e : H a = some (.tup xs)) : Kn H (.ref a)
theorem Kn.same {H H' : Hp} {v : V} (k : Kn H v) (s : Same H H') : Kn H' v := by
  cases k with
  | non => exact .non
  | bl b => exact .bl b
  | int i => exact .int i
  | str x => exact .str x
  | lst e => exact .lst (s _ _ e)
  | tup e => exact .tup (s _ _ e)
theorem Kn.ty {K : PySem.W.Frag} {H : Hp} {v : V} (k : Kn H v) : TyX K H v (.type (tnm H v)) := by
  cases k with
  | non => exact .base .non
  | bl b => exact .base (.bl b)
  | int i => exact .base (.int i)
  | str x => exact .base (.str x)
  | lst e => rw [tnm_lst e]; exact .base (.lst e)
  | tup e => rw [tnm_tup e]; exact .base (.tup e)
section
variable {X : Cx}
/-- isinstance(v, T), a known value, a built-in type -/
theorem call_isK : CallR X (.builtin "isinstance") (fun xs H Q => ∃ (v : V) (T : String) (b : Bool), xs = [v, .ty T] ∧ Kn H v ∧ kitB (tnm H v) T = some b ∧ Q (.bl b) H) := by
  intro pins s σ H xs us Q I r h
  obtain ⟨v, T, b, rfl, k, e, q⟩ := h
  exact call_isi pins s σ H _ us Q I r ⟨v, .ty T, _, _, b, rfl, .ty T, k.ty, kit_ty e, q⟩
end
/-- a whole number, no Boolean -/
def isW : V → Bool
  | .int _ => true
  | _ => false
/-- a count -/
def isC : V → Bool
  | .int i => decide (0 ≤ i)
  | _ => false
/-- isinstance(v, int) -/
def isI : V → Bool
  | .int _ => true
  | .bl _ => true
  | _ => false
def isBo : V → Bool
  | .bl _ => true
  | _ => false
def isTu (H : Hp) : V → Bool
  | .ref a => match H a with
    | some (.tup _) => true
    | _ => false
  | _ => false
def isLi (H : Hp) : V → Bool
  | .ref a => match H a with
    | some (.lst _) => true
    | _ => false
  | _ => false
theorem kit_int {H : Hp} {v : V} (k : Kn H v) : kitB (tnm H v) "int" = some (isI v) := by
  cases k with
  | non => show kitB "NoneType" "int" = some false; decide +kernel
  | bl b => show kitB "bool" "int" = some true; decide +kernel
  | int i => show kitB "int" "int" = some true; decide +kernel
  | str x => show kitB "str" "int" = some false; decide +kernel
  | lst e => rw [tnm_lst e]; show kitB "list" "int" = some false; decide +kernel
  | tup e => rw [tnm_tup e]; show kitB "tuple" "int" = some false; decide +kernel
theorem kit_bool {H : Hp} {v : V} (k : Kn H v) : kitB (tnm H v) "bool" = some (isBo v) := by
  cases k with
  | non => show kitB "NoneType" "bool" = some false; decide +kernel
  | bl b => show kitB "bool" "bool" = some true; decide +kernel
  | int i => show kitB "int" "bool" = some false; decide +kernel
  | str x => show kitB "str" "bool" = some false; decide +kernel
  | lst e => rw [tnm_lst e]; show kitB "list" "bool" = some false; decide +kernel
  | tup e => rw [tnm_tup e]; show kitB "tuple" "bool" = some false; decide +kernel
theorem kit_tuple {H : Hp} {v : V} (k : Kn H v) : kitB (tnm H v) "tuple" = some (isTu H v) := by
  cases k with
  | non => show kitB "NoneType" "tuple" = some false; decide +kernel
  | bl b => show kitB "bool" "tuple" = some false; decide +kernel
  | int i => show kitB "int" "tuple" = some false; decide +kernel
  | str x => show kitB "str" "tuple" = some false; decide +kernel
  | lst e => rw [tnm_lst e, show isTu H (.ref _) = false by simp only [isTu, e]]; decide +kernel
  | tup e => rw [tnm_tup e, show isTu H (.ref _) = true by simp only [isTu, e]]; decide +kernel
theorem kit_list {H : Hp} {v : V} (k : Kn H v) : kitB (tnm H v) "list" = some (isLi H v) := by
  cases k with
  | non => show kitB "NoneType" "list" = some false; decide +kernel
  | bl b => show kitB "bool" "list" = some false; decide +kernel
  | int i => show kitB "int" "list" = some false; decide +kernel
  | str x => show kitB "str" "list" = some false; decide +kernel
  | lst e => rw [tnm_lst e, show isLi H (.ref _) = true by simp only [isLi, e]]; decide +kernel
  | tup e => rw [tnm_tup e, show isLi H (.ref _) = false by simp only [isLi, e]]; decide +kernel
theorem isTu_tup {H : Hp} {a : Addr} {xs : List V} (e : H a = some (.tup xs)) : isTu H (.ref a) = true := by simp only [isTu, e]
theorem isLi_lst {H : Hp} {a : Addr} {xs : List V} (e : H a = some (.lst xs)) : isLi H (.ref a) = true := by simp only [isLi, e]

/-! ### comprehensions that map -/
/-- n turns, each giving f i and leaving all that was tracked -/
theorem lc_mapW {J : It} {n : Nat} {G : Hp → Prop} {Y : Nat → Hp → V → Hp → Prop} (w : Walk J n G Y) {g : TG} {te : TE} {vs : List Nat} {σ : L2.St} {H1 : Hp} {D : Addr} {Qd : Hp → Prop} (f : Nat → V) (hn : n < sizeLine)
    (hG : ∀ H, Same H1 H → G H)
    (hs : ∀ (i : Nat) (x : V) (H H' : Hp) (R : VK), i < n → Same H1 H → Y i H x H' → (∀ H'', Same H H'' → R (f i) H'') → g x (wipe σ vs) H' fun σ2 H2 => wipe σ2 vs = wipe σ vs ∧ te σ2 H2 R)
    (hD : H1 D = none) (hd : ∀ H : Hp, Same H1 H → H D = some (.lst ((List.range n).map f)) → Qd H) :
    ∃ W : Nat → Nat → Hp → Prop, (∃ m, W 0 m (upd H1 D (.lst []))) ∧ ∀ i m H, W i m H →
      (J.stop i H ∧ Qd H) ∨ (J.go i H ∧ ∃ Nx : Hp → Prop, (∀ H', Nx H' → ∃ m', m' < m ∧ W (i + 1) m' H') ∧ ∀ x H', J.yld i H x H' → g x (wipe σ vs) H' fun σ2 H2 => wipe σ2 vs = wipe σ vs ∧ tYes σ2 H2 fun b H3 =>
        if b = true then te σ2 H3 fun y H4 => ∃ acc, H4 D = some (.lst acc) ∧ acc.length < sizeLine ∧ Nx (upd H4 D (.lst (acc ++ [y]))) else Nx H3) := by
  refine lc_it w (fun i H => Same H1 H ∧ H D = some (.lst ((List.range i).map f)) ∧ i ≤ n) ⟨sameNew hD, upd_same, Nat.zero_le _⟩ (fun i H _ p => hG H p.1) (fun i x H H' hi p y => ?_) fun H p => hd H p.1 p.2.1
  have q := hs i x H H' (fun y H4 => ∃ acc, H4 D = some (.lst acc) ∧ acc.length < sizeLine ∧ (Same H1 (upd H4 D (.lst (acc ++ [y]))) ∧ upd H4 D (.lst (acc ++ [y])) D = some (.lst ((List.range (i + 1)).map f)) ∧ i + 1 ≤ n)) hi p.1 y fun H'' s => by
    refine ⟨_, s D _ p.2.1, ?_, same_upd2 hD (p.1.trans s), ?_, hi⟩
    · rw [List.length_map, List.length_range]
      omega
    · rw [upd_same, List.range_succ, List.map_append]
      rfl
  exact q
theorem range_map_get {α β : Type} (xs : List α) (f : α → β) (d : Nat → β) (h : ∀ (i : Nat) (x : α), xs[i]? = some x → d i = f x) : (List.range xs.length).map d = xs.map f := by
  refine List.ext_getElem? fun i => ?_
  by_cases hi : i < xs.length
  · rw [List.getElem?_map, List.getElem?_map, List.getElem?_range hi, List.getElem?_eq_getElem hi]
    exact congrArg some (h i _ (List.getElem?_eq_getElem hi))
  · rw [List.getElem?_eq_none (by simp; omega), List.getElem?_eq_none (by simp; omega)]
/-- over a tuple -/
theorem lcT_map {K : PySem.W.Frag} {a : Addr} {xs : List V} {j : Nat} {te : TE} {vs : List Nat} {σ : L2.St} {H1 : Hp} {D : Addr} {Qd : Hp → Prop} (f : V → V) (ha : H1 a = some (.tup xs)) (hn : xs.length < sizeLine)
    (hs : ∀ (i : Nat) (x : V) (H : Hp) (R : VK), xs[i]? = some x → Same H1 H → (∀ H', Same H H' → R (f x) H') → wipe ((wipe σ vs).set j (some x)) vs = wipe σ vs ∧ te ((wipe σ vs).set j (some x)) H R)
    (hD : H1 D = none) (hd : ∀ H : Hp, Same H1 H → H D = some (.lst (xs.map f)) → Qd H) :
    ∃ W : Nat → Nat → Hp → Prop, (∃ m, W 0 m (upd H1 D (.lst []))) ∧ ∀ i m H, W i m H →
      ((Itt K a).stop i H ∧ Qd H) ∨ ((Itt K a).go i H ∧ ∃ Nx : Hp → Prop, (∀ H', Nx H' → ∃ m', m' < m ∧ W (i + 1) m' H') ∧ ∀ x H', (Itt K a).yld i H x H' → gName j x (wipe σ vs) H' fun σ2 H2 => wipe σ2 vs = wipe σ vs ∧ tYes σ2 H2 fun b H3 =>
        if b = true then te σ2 H3 fun y H4 => ∃ acc, H4 D = some (.lst acc) ∧ acc.length < sizeLine ∧ Nx (upd H4 D (.lst (acc ++ [y]))) else Nx H3) := by
  have e : (List.range xs.length).map (fun i => f (xs.getD i .non)) = xs.map f := range_map_get xs f _ fun i x h => by rw [List.getD_eq_getElem?_getD, h]; rfl
  refine lc_mapW (walk_tup (K := K) (a := a) (xs := xs)) (fun i => f (xs.getD i .non)) hn (fun H s => .inl (.inl (s _ _ ha))) (fun i x H H' R hi s y q => ?_) hD fun H s q => hd H s (by rw [q, e])
  obtain ⟨rfl, hx⟩ := y
  refine hs i x H' R hx s fun H'' s' => ?_
  have := q H'' s'
  rw [show xs.getD i .non = x by rw [List.getD_eq_getElem?_getD, hx]; rfl] at this
  exact this
/-- over a list -/
theorem lcL_map {K : PySem.W.Frag} {a : Addr} {xs : List V} {j : Nat} {te : TE} {vs : List Nat} {σ : L2.St} {H1 : Hp} {D : Addr} {Qd : Hp → Prop} (f : V → V) (ha : H1 a = some (.lst xs)) (hn : xs.length < sizeLine)
    (hs : ∀ (i : Nat) (x : V) (H : Hp) (R : VK), xs[i]? = some x → Same H1 H → (∀ H', Same H H' → R (f x) H') → wipe ((wipe σ vs).set j (some x)) vs = wipe σ vs ∧ te ((wipe σ vs).set j (some x)) H R)
    (hD : H1 D = none) (hd : ∀ H : Hp, Same H1 H → H D = some (.lst (xs.map f)) → Qd H) :
    ∃ W : Nat → Nat → Hp → Prop, (∃ m, W 0 m (upd H1 D (.lst []))) ∧ ∀ i m H, W i m H →
      ((Itl K a).stop i H ∧ Qd H) ∨ ((Itl K a).go i H ∧ ∃ Nx : Hp → Prop, (∀ H', Nx H' → ∃ m', m' < m ∧ W (i + 1) m' H') ∧ ∀ x H', (Itl K a).yld i H x H' → gName j x (wipe σ vs) H' fun σ2 H2 => wipe σ2 vs = wipe σ vs ∧ tYes σ2 H2 fun b H3 =>
        if b = true then te σ2 H3 fun y H4 => ∃ acc, H4 D = some (.lst acc) ∧ acc.length < sizeLine ∧ Nx (upd H4 D (.lst (acc ++ [y]))) else Nx H3) := by
  have e : (List.range xs.length).map (fun i => f (xs.getD i .non)) = xs.map f := range_map_get xs f _ fun i x h => by rw [List.getD_eq_getElem?_getD, h]; rfl
  refine lc_mapW (walk_list (K := K) (a := a) (xs := xs)) (fun i => f (xs.getD i .non)) hn (fun H s => .inl (.inl (s _ _ ha))) (fun i x H H' R hi s y q => ?_) hD fun H s q => hd H s (by rw [q, e])
  obtain ⟨rfl, hx⟩ := y
  refine hs i x H' R hx s fun H'' s' => ?_
  have := q H'' s'
  rw [show xs.getD i .non = x by rw [List.getD_eq_getElem?_getD, hx]; rfl] at this
  exact this
/-- over a range -/
theorem lcR_map {lo : Int} {n : Nat} {j : Nat} {te : TE} {vs : List Nat} {σ : L2.St} {H1 : Hp} {D : Addr} {Qd : Hp → Prop} (f : Nat → V) (hn : n < sizeLine)
    (hs : ∀ (i : Nat) (H : Hp) (R : VK), i < n → Same H1 H → (∀ H', Same H H' → R (f i) H') → wipe ((wipe σ vs).set j (some (.int (lo + i)))) vs = wipe σ vs ∧ te ((wipe σ vs).set j (some (.int (lo + i)))) H R)
    (hD : H1 D = none) (hd : ∀ H : Hp, Same H1 H → H D = some (.lst ((List.range n).map f)) → Qd H) :
    ∃ W : Nat → Nat → Hp → Prop, (∃ m, W 0 m (upd H1 D (.lst []))) ∧ ∀ i m H, W i m H →
      ((Itr lo n).stop i H ∧ Qd H) ∨ ((Itr lo n).go i H ∧ ∃ Nx : Hp → Prop, (∀ H', Nx H' → ∃ m', m' < m ∧ W (i + 1) m' H') ∧ ∀ x H', (Itr lo n).yld i H x H' → gName j x (wipe σ vs) H' fun σ2 H2 => wipe σ2 vs = wipe σ vs ∧ tYes σ2 H2 fun b H3 =>
        if b = true then te σ2 H3 fun y H4 => ∃ acc, H4 D = some (.lst acc) ∧ acc.length < sizeLine ∧ Nx (upd H4 D (.lst (acc ++ [y]))) else Nx H3) := by
  refine lc_mapW (walk_range (lo := lo) (n := n)) f hn (fun H s => True.intro) (fun i x H H' R hi s y q => ?_) hD fun H s q => hd H s q
  obtain ⟨rfl, rfl⟩ := y
  exact hs i H' R hi s q
theorem range_map_zip {α β γ : Type} (xs : List α) (ys : List β) (hl : xs.length = ys.length) (f : α → β → γ) (d : Nat → γ) (h : ∀ (i : Nat) (x : α) (y : β), xs[i]? = some x → ys[i]? = some y → d i = f x y) : (List.range xs.length).map d = List.zipWith f xs ys := by
  refine List.ext_getElem? fun i => ?_
  by_cases hi : i < xs.length
  · have hi2 : i < ys.length := by omega
    rw [List.getElem?_map, List.getElem?_range hi, List.getElem?_zipWith, List.getElem?_eq_getElem hi, List.getElem?_eq_getElem hi2]
    exact congrArg some (h i _ _ (List.getElem?_eq_getElem hi) (List.getElem?_eq_getElem hi2))
  · rw [List.getElem?_eq_none (by simp; omega), List.getElem?_eq_none (by simp; omega)]
/-- over zip -/
theorem lcZ_map {K : PySem.W.Frag} {k k' : Kd} {a b : Addr} {xs ys : List V} {i1 i2 : Nat} {te : TE} {vs : List Nat} {σ : L2.St} {H1 : Hp} {D : Addr} {Qd : Hp → Prop} (f : V → V → V) (hl : xs.length = ys.length) (hn : xs.length < sizeLine)
    (ha : ∀ H, Same H1 H → SqB K k H a xs ∧ SqB K k' H b ys)
    (hs : ∀ (i : Nat) (x y : V) (H : Hp) (R : VK), xs[i]? = some x → ys[i]? = some y → Same H1 H → (∀ H', Same H H' → R (f x y) H') → wipe (((wipe σ vs).set i1 (some x)).set i2 (some y)) vs = wipe σ vs ∧ te (((wipe σ vs).set i1 (some x)).set i2 (some y)) H R)
    (hD : H1 D = none) (hd : ∀ H : Hp, Same H1 H → H D = some (.lst (List.zipWith f xs ys)) → Qd H) :
    ∃ W : Nat → Nat → Hp → Prop, (∃ m, W 0 m (upd H1 D (.lst []))) ∧ ∀ i m H, W i m H →
      ((ItB K k k' a b).stop i H ∧ Qd H) ∨ ((ItB K k k' a b).go i H ∧ ∃ Nx : Hp → Prop, (∀ H', Nx H' → ∃ m', m' < m ∧ W (i + 1) m' H') ∧ ∀ x H', (ItB K k k' a b).yld i H x H' → gTup K 2 (gCons (gName i1) (gCons (gName i2) gNil)) x (wipe σ vs) H' fun σ2 H2 => wipe σ2 vs = wipe σ vs ∧ tYes σ2 H2 fun b H3 =>
        if b = true then te σ2 H3 fun y H4 => ∃ acc, H4 D = some (.lst acc) ∧ acc.length < sizeLine ∧ Nx (upd H4 D (.lst (acc ++ [y]))) else Nx H3) := by
  have e : (List.range xs.length).map (fun i => f (xs.getD i .non) (ys.getD i .non)) = List.zipWith f xs ys := range_map_zip xs ys hl f _ fun i x y h h' => by
    rw [List.getD_eq_getElem?_getD, List.getD_eq_getElem?_getD, h, h']
    rfl
  refine lc_mapW (walkB (K := K) (k := k) (k' := k') (a := a) (b := b) hl) (fun i => f (xs.getD i .non) (ys.getD i .non)) hn ha (fun i v H H' R hi s y q => ?_) hD fun H s q => hd H s (by rw [q, e])
  obtain ⟨T, x, y, rfl, hT, rfl, hx, hy⟩ := y
  have hx : xs[i]? = some x := hx
  have hy : ys[i]? = some y := hy
  have st : Same H (upd H T (.tup [x, y])) := sameNew hT
  refine ⟨T, [x, y], rfl, .inl (.inl upd_same), rfl, x, [y], rfl, y, [], rfl, rfl, hs i x y _ R hx hy (s.trans st) fun H'' s' => ?_⟩
  have := q H'' (st.trans s')
  rw [show xs.getD i .non = x by rw [List.getD_eq_getElem?_getD, hx]; rfl, show ys.getD i .non = y by rw [List.getD_eq_getElem?_getD, hy]; rfl] at this
  exact this
end CK

set_option Elab.async false
set_option linter.all false
set_option maxRecDepth 100000
set_option maxHeartbeats 2000000
namespace CK
open PySem PySem.Spec PyProof.Rows L2
theorem cutV_drop (xs : List V) (k : Nat) : cutV xs (some (k : Int)) none = xs.drop k := by
  unfold cutV
  rw [HT.sIx_nat xs.length 0 k, HT.sIx_none]
  by_cases h : k ≤ xs.length
  · rw [Nat.min_eq_left h, List.take_of_length_le (by rw [List.length_drop]; exact Nat.le_refl _)]
  · rw [Nat.min_eq_right (by omega), List.drop_of_length_le (Nat.le_refl _), List.drop_of_length_le (by omega), List.take_nil]
theorem cutV_take (xs : List V) (k : Nat) : cutV xs none (some (k : Int)) = xs.take k := by
  unfold cutV
  rw [HT.sIx_nat xs.length xs.length k, HT.sIx_none]
  show (xs.drop 0).take (min k xs.length - 0) = xs.take k
  rw [List.drop_zero, Nat.sub_zero]
  by_cases h : k ≤ xs.length
  · rw [Nat.min_eq_left h]
  · rw [Nat.min_eq_right (by omega), List.take_of_length_le (Nat.le_refl _), List.take_of_length_le (by omega)]
section
variable {X : Cx}
/-- a, b = a pair -/
theorem pg_two {K : PySem.W.Frag} {i j : Nat} {x y : Str} {px py pos : Pos} {k : Nat} (hK : X.K = K) (hc : X.calm = true) (hN : X.N.Nodup) (hi : X.N[i]? = some x) (hj : X.N[j]? = some y) (hx : Loc X.env.scope x) (hy : Loc X.env.scope y)
    (f1 : X.fn x = true ∨ X.env.scope.names.lookup x = some .local := by first | exact .inl rfl | exact .inr rfl)
    (f2 : X.fn y = true ∨ X.env.scope.names.lookup y = some .local := by first | exact .inl rfl | exact .inr rfl) :
    PG X (.Tuple [.Name x px, .Name y py] k pos) (gTup K 2 (gCons (gName i) (gCons (gName j) gNil))) := by
  subst hK
  exact pg_tup hc (pgs_cons (pg_name hN hi hx f1) (pgs_cons (pg_name hN hj hy f2) pgs_nil))
/-- t[k:], a tuple: what is behind, wherever it stands -/
theorem sl_drop : SlR X (fun x lo hi H Q => ∃ (a : Addr) (xs : List V) (k : Nat), x = .ref a ∧ lo = some (k : Int) ∧ hi = none ∧ H a = some (.tup xs) ∧ ∀ p H', Same H H' → H' p = some (.tup (xs.drop k)) → Q (.ref p) H') := by
  intro pins s σ H x v vl vu lo hi sl Q I rx hs pl pu h
  obtain ⟨a, xs, k, rfl, rfl, rfl, ha, q⟩ := h
  refine sl_tupA pins s σ H _ v vl vu _ _ sl Q I rx hs pl pu ⟨a, xs, rfl, .inl (.inl ha), fun z => q a H (Same.refl H) ?_, fun _ p hp => q p _ (sameNew hp) (by rw [upd_same, cutV_drop])⟩
  rw [ha, ← cutV_drop xs k]
  unfold cutV
  rw [z.1, z.2, Nat.sub_zero, List.drop_zero, List.take_length]
/-- t[:k] -/
theorem sl_take : SlR X (fun x lo hi H Q => ∃ (a : Addr) (xs : List V) (k : Nat), x = .ref a ∧ lo = none ∧ hi = some (k : Int) ∧ H a = some (.tup xs) ∧ ∀ p H', Same H H' → H' p = some (.tup (xs.take k)) → Q (.ref p) H') := by
  intro pins s σ H x v vl vu lo hi sl Q I rx hs pl pu h
  obtain ⟨a, xs, k, rfl, rfl, rfl, ha, q⟩ := h
  refine sl_tupA pins s σ H _ v vl vu _ _ sl Q I rx hs pl pu ⟨a, xs, rfl, .inl (.inl ha), fun z => q a H (Same.refl H) ?_, fun _ p hp => q p _ (sameNew hp) (by rw [upd_same, cutV_take])⟩
  rw [ha, ← cutV_take xs k]
  unfold cutV
  rw [z.1, z.2, Nat.sub_zero, List.drop_zero, List.take_length]
/-- t + u, tuples -/
theorem op_catS : OpR X (binaryOp .Add) (fun x y H Q => ∃ (a b : Addr) (xs ys : List V), x = .ref a ∧ y = .ref b ∧ H a = some (.tup xs) ∧ H b = some (.tup ys) ∧ xs.length + ys.length ≤ 1000 ∧
    ∀ p H', Same H H' → H' p = some (.tup (xs ++ ys)) → Q (.ref p) H') := by
  intro pins s σ H x y v u Q I rx ry h
  obtain ⟨a, b, xs, ys, rfl, rfl, ha, hb, hl, q⟩ := h
  refine op_catA pins s σ H _ _ v u Q I rx ry ⟨a, b, xs, ys, rfl, rfl, .inl (.inl ha), .inl (.inl hb), Nat.le_of_lt (small1000 hl), fun e => ?_, fun _ e => ?_, fun _ _ p hp => q p _ (sameNew hp) upd_same⟩
  · subst e
    exact q b H (Same.refl H) hb
  · subst e
    exact q a H (Same.refl H) (by rw [List.append_nil]; exact ha)
/-- t[i], xs[i] of what is tracked (no word of the written part, so that it stands in a comprehension) -/
theorem ix_tupH : IxR X (fun x y H Q => ∃ (p : Addr) (xs : List V) (i : Int) (v : V), x = .ref p ∧ y = .int i ∧ H p = some (.tup xs) ∧ atI xs i = some v ∧ Q v H) := by
  intro ve se pins s σ H x y xv yv Q I rx ry h e
  obtain ⟨p, xs, i, v, e1, e2, hp, e3, q⟩ := h
  exact ix_tup ve se pins s σ H x y xv yv Q I rx ry ⟨p, xs, i, v, e1, e2, .inl (.inl hp), e3, q⟩ e
theorem ix_listH : IxR X (fun x y H Q => ∃ (p : Addr) (xs : List V) (i : Int) (v : V), x = .ref p ∧ y = .int i ∧ H p = some (.lst xs) ∧ atI xs i = some v ∧ Q v H) := by
  intro ve se pins s σ H x y xv yv Q I rx ry h e
  obtain ⟨p, xs, i, v, e1, e2, hp, e3, q⟩ := h
  exact ix_list ve se pins s σ H x y xv yv Q I rx ry ⟨p, xs, i, v, e1, e2, .inl (.inl hp), e3, q⟩ e
theorem cr_sumH (hc : X.calm = true) : CallR X (.builtin "sum") (fun vs H Q => ∃ (a : Addr) (ns : List Int), vs = [V.ref a] ∧ H a = some (.lst (ns.map V.int)) ∧ Q (.int ns.sum) H) := by
  intro pins s σ H xs us Q I r h
  obtain ⟨a, ns, e, ha, q⟩ := h
  exact cr_sum hc pins s σ H xs us Q I r ⟨a, ns, e, .inl (.inl ha), q⟩
theorem call_listL : CallR X (.type "list") (fun xs H Q => ∃ (p : Addr) (ys : List V), xs = [.ref p] ∧ H p = some (.lst ys) ∧ ∀ l, H l = none → Q (.ref l) (upd H l (.lst ys))) := by
  intro pins s σ H xs us Q I r h
  obtain ⟨p, ys, e, hp, q⟩ := h
  exact call_list_of pins s σ H xs us Q I r ⟨p, ys, e, .inl (.inl (.inl hp)), q⟩
/-- tuple(xs) of a list: a new tuple -/
theorem call_tupL : CallR X (.type "tuple") (fun xs H Q => ∃ (p : Addr) (ys : List V), xs = [.ref p] ∧ H p = some (.lst ys) ∧ ∀ l H', Same H H' → H' l = some (.tup ys) → Q (.ref l) H') := by
  intro pins s σ H xs us Q I r h
  obtain ⟨p, ys, rfl, hp, q⟩ := h
  exact call_tuple_of pins s σ H _ us Q I r ⟨p, ys, rfl, .inl ⟨.inl (.inl hp), fun l hl => q l _ (sameNew hl) upd_same⟩⟩
end
end CK

set_option Elab.async false
set_option linter.all false
set_option maxRecDepth 100000
set_option maxHeartbeats 2000000
/-! the laws' generator of numbers: a list of three whole numbers -/
namespace CK
open PySem PySem.Spec PyProof.Rows L2
/-- the generator at g, from which n more numbers may be drawn -/
def Gn (n : Nat) (H : Hp) (g : Addr) : Prop := ∃ a b c : Int, H g = some (.lst [.int a, .int b, .int c]) ∧ 0 ≤ a ∧ 0 ≤ b ∧ b < 2 ^ 31 ∧ 0 ≤ c ∧ c + 8 * n ≤ 2 ^ 40
theorem Gn.le {n m : Nat} {H : Hp} {g : Addr} (h : Gn n H g) (hm : m ≤ n) : Gn m H g := by
  obtain ⟨a, b, c, h1, h2, h3, h4, h5, h6⟩ := h
  exact ⟨a, b, c, h1, h2, h3, h4, h5, by omega⟩
theorem Gn.same {n : Nat} {H H' : Hp} {g : Addr} (h : Gn n H g) (s : Same H H') : Gn n H' g := by
  obtain ⟨a, b, c, h1, r⟩ := h
  exact ⟨a, b, c, s _ _ h1, r⟩
theorem Gn.at {n : Nat} {H : Hp} {g : Addr} (h : Gn n H g) : ∃ xs, H g = some (.lst xs) := by
  obtain ⟨a, b, c, h1, r⟩ := h
  exact ⟨_, h1⟩
theorem Gn.ne {n : Nat} {H : Hp} {g D : Addr} (h : Gn n H g) (hD : H D = none) : D ≠ g := fun e => by
  obtain ⟨xs, h1⟩ := h.at
  rw [e, h1] at hD
  cases hD
theorem Gn.upd {n : Nat} {H : Hp} {g D : Addr} {o : HO} (h : Gn n H g) (hD : D ≠ g) : Gn n (upd H D o) g := by
  obtain ⟨a, b, c, h1, r⟩ := h
  exact ⟨a, b, c, by rw [upd_ne (Ne.symm hD)]; exact h1, r⟩
theorem sameX_new {g : Addr} {H : Hp} {D : Addr} {o : HO} (hD : H D = none) : SameX g H (L2.upd H D o) := .of (sameNew hD)
theorem SameX.upd2 {g D : Addr} {H H1 : Hp} {o : HO} (s : SameX g H H1) (hD : H D = none) : SameX g H (L2.upd H1 D o) := fun b z n e => by
  rw [upd_ne (ne_of_none e hD)]
  exact s b z n e
theorem SameX.tup {g a : Addr} {H H' : Hp} {xs : List V} {n : Nat} (s : SameX g H H') (G : Gn n H g) (h : H a = some (.tup xs)) : H' a = some (.tup xs) := s a _ (fun e => by
  obtain ⟨ys, h1⟩ := G.at
  rw [e, h1] at h
  cases h) h
theorem ix_at {n j : Nat} (h : j < n) : ixN n (j : Int) = some j := by
  unfold ixN
  rw [if_pos (by omega), if_pos (by omega)]
  rfl
/-- a comprehension that draws: its numbers stay within most -/
theorem lcD_draw {lo : Int} {g : Addr} {n cnt j : Nat} {most : Int} {te : TE} {vs : List Nat} {σ : L2.St} {H1 : Hp} {D : Addr} {Qd : Hp → Prop} (hc : cnt < sizeLine) (hD : H1 D = none) (hg : Gn (n + cnt) H1 g)
    (hs : ∀ (i : Nat) (H : Hp) (R : VK), i < cnt → SameX g H1 H → Gn (n + (cnt - (i + 1)) + 1) H g → (∀ (r : Int) H', SameX g H H' → Gn (n + (cnt - (i + 1))) H' g → 0 ≤ r → r ≤ most → R (.int r) H') →
      wipe ((wipe σ vs).set j (some (.int (lo + i)))) vs = wipe σ vs ∧ te ((wipe σ vs).set j (some (.int (lo + i)))) H R)
    (hd : ∀ (H : Hp) (ns : List Int), SameX g H1 H → Gn n H g → H D = some (.lst (ns.map V.int)) → ns.length = cnt → (∀ x ∈ ns, 0 ≤ x ∧ x ≤ most) → Qd H) :
    ∃ W : Nat → Nat → Hp → Prop, (∃ m, W 0 m (L2.upd H1 D (.lst []))) ∧ ∀ i m H, W i m H →
      ((Itr lo cnt).stop i H ∧ Qd H) ∨ ((Itr lo cnt).go i H ∧ ∃ Nx : Hp → Prop, (∀ H', Nx H' → ∃ m', m' < m ∧ W (i + 1) m' H') ∧ ∀ x H', (Itr lo cnt).yld i H x H' → gName j x (wipe σ vs) H' fun σ2 H2 => wipe σ2 vs = wipe σ vs ∧ tYes σ2 H2 fun b H3 =>
        if b = true then te σ2 H3 fun y H4 => ∃ acc, H4 D = some (.lst acc) ∧ acc.length < sizeLine ∧ Nx (L2.upd H4 D (.lst (acc ++ [y]))) else Nx H3) := by
  have hDg := hg.ne hD
  refine lc_range (fun i H => SameX g H1 H ∧ Gn (n + (cnt - i)) H g ∧ i ≤ cnt ∧ ∃ ns : List Int, H D = some (.lst (ns.map V.int)) ∧ ns.length = i ∧ ∀ x ∈ ns, 0 ≤ x ∧ x ≤ most)
    ⟨sameX_new hD, hg.upd hDg, Nat.zero_le _, [], upd_same, rfl, fun x h => absurd h List.not_mem_nil⟩ (fun i H hi p => ?_) fun H p => ?_
  · obtain ⟨s, G, _, ns, hL, hl, hb⟩ := p
    have G1 : Gn (n + (cnt - (i + 1)) + 1) H g := by
      have e : n + (cnt - (i + 1)) + 1 = n + (cnt - i) := by omega
      rw [e]
      exact G
    refine hs i H _ hi s G1 fun r H' s' G' h0 h1 => ⟨_, s' D _ hDg hL, by rw [List.length_map]; omega, (s.trans s').upd2 hD, G'.upd hDg, hi, ns ++ [r], ?_, ?_, fun x hx => ?_⟩
    · rw [upd_same, List.map_append]
      rfl
    · rw [List.length_append, hl]
      rfl
    · rcases List.mem_append.mp hx with z | z
      · exact hb x z
      · rw [List.mem_singleton.mp z]
        exact ⟨h0, h1⟩
  · obtain ⟨s, G, _, ns, hL, hl, hb⟩ := p
    rw [Nat.sub_self] at G
    exact hd H ns s G hL hl hb
end CK

set_option Elab.async false
set_option linter.all false
set_option maxRecDepth 100000
set_option maxHeartbeats 2000000
namespace CK
open PySem PySem.Spec PyProof.Rows L2
/-! ### data that are compared -/
def dI (ns : List Int) : PyData := .tuple (ns.map PyData.int)
theorem lay_ints : ∀ ns : List Int, PyData.canLayAll0 (ns.map PyData.int) = true
  | [] => by simp [PyData.canLayAll0]
  | n :: ns => by
    rw [List.map_cons, PyData.canLayAll0, lay_ints ns]
    simp [PyData.canLay0]
theorem deep_ints : ∀ ns : List Int, PyData.depthAll (ns.map PyData.int) = 0
  | [] => by simp [PyData.depthAll]
  | n :: ns => by
    rw [List.map_cons, PyData.depthAll, deep_ints ns]
    simp [PyData.depth]
theorem lay_dI (ns : List Int) : (dI ns).canLay0 = true := by
  unfold dI
  rw [PyData.canLay0]
  exact lay_ints ns
theorem deep_dI (ns : List Int) : (dI ns).depth = 1 := by
  unfold dI
  rw [PyData.depth, deep_ints]
theorem shaped_dI (ns : List Int) : SeqAt.shaped (dI ns) = true := by
  unfold SeqAt.shaped
  rw [lay_dI, deep_dI]
  rfl
theorem lay_forms : ∀ fs : List (List Int), PyData.canLayAll0 (fs.map dI) = true
  | [] => by simp [PyData.canLayAll0]
  | f :: fs => by
    rw [List.map_cons, PyData.canLayAll0, lay_forms fs, lay_dI]
    rfl
theorem deep_forms : ∀ fs : List (List Int), PyData.depthAll (fs.map dI) ≤ 1
  | [] => by simp [PyData.depthAll]
  | f :: fs => by
    have := deep_forms fs
    rw [List.map_cons, PyData.depthAll, deep_dI]
    omega
theorem shaped_forms (fs : List (List Int)) : SeqAt.shaped (.list (fs.map dI)) = true := by
  unfold SeqAt.shaped
  rw [PyData.canLay0, lay_forms, PyData.depth]
  have := deep_forms fs
  rw [decide_eq_true (by omega)]
  rfl
section
variable {K : PySem.W.Frag} {H : Hp}
theorem dpAll_ints : ∀ ns : List Int, DpAll K H (ns.map V.int) (ns.map PyData.int)
  | [] => .nil
  | n :: ns => .cons (.int n) (dpAll_ints ns)
theorem dp_ints {a : Addr} {ns : List Int} (h : H a = some (.tup (ns.map V.int))) : Dp K H (.ref a) (dI ns) := .tup (.inl (.inl h)) (dpAll_ints ns)
end
section
variable {X : Cx}
/-- x != y, of equal data -/
theorem op_neSame (hu : X.A.units + 64 < cLine) : OpR X (compareOp .NotEq) (fun x y H Q => ∃ d, Dp X.K H x d ∧ Dp X.K H y d ∧ SeqAt.shaped d = true ∧ Q (.bl false) H) := by
  intro pins s σ H x y v u Q I rx ry h
  obtain ⟨d, h1, h2, h3, q⟩ := h
  refine op_neD hu pins s σ H x y v u Q I rx ry ⟨d, d, h1, h2, h3, h3, ?_⟩
  rw [SeqAt.eqv_refl d (SeqAt.canLay_of_shaped h3)]
  exact q
end
/-! ### comprehensions that map, by the turn's number -/
theorem lcZ_mapI {K : PySem.W.Frag} {k k' : Kd} {a b : Addr} {xs ys : List V} {i1 i2 : Nat} {te : TE} {vs : List Nat} {σ : L2.St} {H1 : Hp} {D : Addr} {Qd : Hp → Prop} (f : Nat → V) (hl : xs.length = ys.length) (hn : xs.length < sizeLine)
    (ha : ∀ H, Same H1 H → SqB K k H a xs ∧ SqB K k' H b ys)
    (hs : ∀ (i : Nat) (x y : V) (H : Hp) (R : VK), xs[i]? = some x → ys[i]? = some y → Same H1 H → (∀ H', Same H H' → R (f i) H') → wipe (((wipe σ vs).set i1 (some x)).set i2 (some y)) vs = wipe σ vs ∧ te (((wipe σ vs).set i1 (some x)).set i2 (some y)) H R)
    (hD : H1 D = none) (hd : ∀ H : Hp, Same H1 H → H D = some (.lst ((List.range xs.length).map f)) → Qd H) :
    ∃ W : Nat → Nat → Hp → Prop, (∃ m, W 0 m (upd H1 D (.lst []))) ∧ ∀ i m H, W i m H →
      ((ItB K k k' a b).stop i H ∧ Qd H) ∨ ((ItB K k k' a b).go i H ∧ ∃ Nx : Hp → Prop, (∀ H', Nx H' → ∃ m', m' < m ∧ W (i + 1) m' H') ∧ ∀ x H', (ItB K k k' a b).yld i H x H' → gTup K 2 (gCons (gName i1) (gCons (gName i2) gNil)) x (wipe σ vs) H' fun σ2 H2 => wipe σ2 vs = wipe σ vs ∧ tYes σ2 H2 fun b H3 =>
        if b = true then te σ2 H3 fun y H4 => ∃ acc, H4 D = some (.lst acc) ∧ acc.length < sizeLine ∧ Nx (upd H4 D (.lst (acc ++ [y]))) else Nx H3) := by
  refine lc_mapW (walkB (K := K) (k := k) (k' := k') (a := a) (b := b) hl) f hn ha (fun i v H H' R hi s y q => ?_) hD hd
  obtain ⟨T, x, y, rfl, hT, rfl, hx, hy⟩ := y
  have hx : xs[i]? = some x := hx
  have hy : ys[i]? = some y := hy
  have st : Same H (upd H T (.tup [x, y])) := sameNew hT
  exact ⟨T, [x, y], rfl, .inl (.inl upd_same), rfl, x, [y], rfl, y, [], rfl, rfl, hs i x y _ R hx hy (s.trans st) fun H'' s' => q H'' (st.trans s')⟩
theorem lcL_mapI {K : PySem.W.Frag} {a : Addr} {xs : List V} {j : Nat} {te : TE} {vs : List Nat} {σ : L2.St} {H1 : Hp} {D : Addr} {Qd : Hp → Prop} (f : Nat → V) (ha : H1 a = some (.lst xs)) (hn : xs.length < sizeLine)
    (hs : ∀ (i : Nat) (x : V) (H : Hp) (R : VK), xs[i]? = some x → Same H1 H → (∀ H', Same H H' → R (f i) H') → wipe ((wipe σ vs).set j (some x)) vs = wipe σ vs ∧ te ((wipe σ vs).set j (some x)) H R)
    (hD : H1 D = none) (hd : ∀ H : Hp, Same H1 H → H D = some (.lst ((List.range xs.length).map f)) → Qd H) :
    ∃ W : Nat → Nat → Hp → Prop, (∃ m, W 0 m (upd H1 D (.lst []))) ∧ ∀ i m H, W i m H →
      ((Itl K a).stop i H ∧ Qd H) ∨ ((Itl K a).go i H ∧ ∃ Nx : Hp → Prop, (∀ H', Nx H' → ∃ m', m' < m ∧ W (i + 1) m' H') ∧ ∀ x H', (Itl K a).yld i H x H' → gName j x (wipe σ vs) H' fun σ2 H2 => wipe σ2 vs = wipe σ vs ∧ tYes σ2 H2 fun b H3 =>
        if b = true then te σ2 H3 fun y H4 => ∃ acc, H4 D = some (.lst acc) ∧ acc.length < sizeLine ∧ Nx (upd H4 D (.lst (acc ++ [y]))) else Nx H3) := by
  refine lc_mapW (walk_list (K := K) (a := a) (xs := xs)) f hn (fun H s => .inl (.inl (s _ _ ha))) (fun i x H H' R hi s y q => ?_) hD hd
  obtain ⟨rfl, hx⟩ := y
  exact hs i x H' R hx s q
end CK

set_option Elab.async false
set_option linter.all false
set_option maxRecDepth 100000
set_option maxHeartbeats 2000000
/-! own classes: their facts, their methods' promises by their bodies -/
namespace CK
open PySem PySem.Spec PyProof.Rows L2
/-- a method's def as it stands behind the top -/
structure MetF (K : PySem.W.Frag) (C : Addr) (m q : Str) (st : Stmt) (ps : List Str) : Prop where
  ex : ∃ (f : Addr) (fd : FuncData), C8.Fun K m q st f fd ∧ Meth K C m f ∧ Binds K fd ps []
/-- a class as it stands -/
structure ClF (K : PySem.W.Frag) (mg : Str → Option Value) (x : Str) (C : Addr) : Prop where
  mgC : mg x = some (.ref C)
  makes : PySem.W.makesIn K C = true
  kp : PySem.W.keepIn K (.ref C) = true
  ins : C8.InsC K C
theorem metF_mk {K : PySem.W.Frag} {mg : Str → Option Value} {x : Str} {C : Addr} (_ : ClF K mg x C) (m q : Str) (st : Stmt) (ps : List Str) {f : Addr} {od an : Option Addr} {oc kV dc pm cd ct : Value} {sl : Array (Option Value)}
    (a : PySem.W.findIn K (.ref C) m = some (some (.ref f))) (i : PySem.W.isFn K (.ref f) = true)
    (l : K.lookup f = some ⟨oc, od, .func (PySem.W.fnOf m q (C8.fnArgs st) (C8.fnBody st) (C8.fnScope st) .none kV dc pm an cd ct), sl⟩)
    (c : PySem.W.codeIn K cd q = true) (k : PySem.W.keepIn K (.ref f) = true)
    (hb : ∀ (kV doc pm : Value) (an : Option Addr) (cdv ct : Value) (us : List Value), us.length = ps.length →
      bindArgs (PySem.W.fnOf m q (C8.fnArgs st) (C8.fnBody st) (C8.fnScope st) .none kV doc pm an cdv ct) ⟨us, []⟩ = pure (ps.zip us)) : MetF K C m q st ps :=
  ⟨f, _, ⟨oc, od, .none, kV, dc, pm, an, cd, ct, sl, rfl, l, c⟩, ⟨a, i, k⟩, C8.Fun.binds ⟨oc, od, .none, kV, dc, pm, an, cd, ct, sl, rfl, l, c⟩ rfl hb⟩
theorem clF_mk {K : PySem.W.Frag} {h : Heap} {mg : Str → Option Value} {x : Str} {C : Addr} (X : K.In h) (G : h.Ns mainGlobals mg)
    (a : PySem.W.nsIn K mainGlobals x = some (some (.ref C))) (pg : PySem.W.plainGet K C Str.empty = true) (hd : PySem.W.hasDictIn K C = true) (po : PySem.W.plainOver K C = true)
    (sa : PySem.W.findIn K (.ref C) "__setattr__" = some (some (.builtin "object.__setattr__"))) (mk : PySem.W.makesIn K C = true) (kp : PySem.W.keepIn K (.ref C) = true)
    (ha : PySem.W.findIn K (.ref C) "__class__" = some (some (.builtin "object.__class__"))) (hn : PySem.W.specialIn K (.builtin "object.__class__") "__get__" = some (some (.builtin "getset_descriptor.__get__")))
    (htk : PySem.W.takesIn K (.builtin "object.__class__") = some true) (hm : PySem.W.mroIn K C (.type "object") = some true) : ClF K mg x C :=
  ⟨PySem.W.mg_of X G a, mk, kp, ⟨⟨pg, hd, po, sa⟩, ha, hn, htk, hm, if_pos (beq_self_eq_true _)⟩⟩
theorem with_cls {K : PySem.W.Frag} {h : Heap} {mg : Str → Option Value} (_ : K.In h) (x : Str) {C : Addr} {R : Prop} (d : ClF K mg x C) (r : ClF K mg x C → R) : R := r d
theorem with_met {K : PySem.W.Frag} {mg : Str → Option Value} {x : Str} {C : Addr} (_ : ClF K mg x C) (m q : Str) (st : Stmt) (ps : List Str) {R : Prop} (d : MetF K C m q st ps) (r : MetF K C m q st ps → R) : R := r d
section
variable {P : Program} {w : World} {K : PySem.W.Frag} {mg : Str → Option Value} {base : Heap} {x : Str} {C : Addr}
theorem metF {m q : Str} {st : Stmt} {N ps : List Str} {k : Nat} {sp : Sp} (c : ClF K mg x C) (D : MetF K C m q st ps) (S : FnScope N ps (C8.fnScope st))
    (len : ∀ vs H Q E, sp vs H Q E → vs.length = ps.length)
    (hbody : ∀ (f : Addr) (cdv : Value) (A : Around) (outer : List Env) (s : Shared) (H : Hp) (vs : List V) (Q : VK) (E : XK), Room k (A.deeper (envOfC q (C8.fnScope st) s.heap.objs.size f cdv)) → sp vs H Q E →
      ∃ t, PSs (cxOf C8.CX0 P w K mg base N q (C8.fnScope st) f cdv A outer s H E).nox (C8.fnBody st) t ∧ t { nx := fun _ H' => Q .non H', rt := Q } (start N vs) H) : C8.Met P w K mg base (k + 1) C m sp [] := by
  obtain ⟨f, fd, F, me, b⟩ := D.ex
  exact C8.met0 c.ins.cl me F b S len (hbody f)
theorem makF {q : Str} {st : Stmt} {N ps : List Str} {k : Nat} {sp : Sp} (c : ClF K mg x C) (D : MetF K C "__init__" q st ps) (S : FnScope N ps (C8.fnScope st))
    (len : ∀ vs H Q E, sp vs H Q E → vs.length = ps.length)
    (hbody : ∀ (f : Addr) (cdv : Value) (A : Around) (outer : List Env) (s : Shared) (H : Hp) (vs : List V) (Q : VK) (E : XK), Room k (A.deeper (envOfC q (C8.fnScope st) s.heap.objs.size f cdv)) → sp vs H Q E →
      ∃ t, PSs (cxOf C8.CX0 P w K mg base N q (C8.fnScope st) f cdv A outer s H E).nox (C8.fnBody st) t ∧ t { nx := fun _ H' => Q .non H', rt := Q } (start N vs) H) : C8.Mak P w K mg base (k + 1) x C sp [] := by
  obtain ⟨f, fd, F, me, b⟩ := D.ex
  exact C8.mak0 ⟨c.makes, me.at_, me.fn, c.kp⟩ c.mgC F b .nil S len (hbody f)
end
end CK
namespace CK
open PySem L2
theorem noA {K : PySem.W.Frag} {mg : Str → Option Value} {x : Str} {C : Addr} (_ : ClF K mg x C) (f : Str) (h : PySem.W.findIn K (.ref C) f = some none) : NoAttr K C f := h
end CK

set_option Elab.async false
set_option linter.all false
set_option maxRecDepth 100000
set_option maxHeartbeats 2000000
/-! texts by their code points -/
namespace CK
open PySem PySem.Spec PyProof.Rows L2 SX
theorem rev_S (z : List Nat) : (⟨((Builtin.Str.strSliceIndices none none (-1) (S z).length).filterMap ((S z).cps[·]?)).toArray⟩ : Str) = S z.reverse := by
  refine TL.ext_tl ?_
  show ((Builtin.Str.strSliceIndices none none (-1) (S z).length).filterMap ((S z).cps[·]?)).toArray.toList = z.reverse
  rw [List.toList_toArray, S_len, picked_rev, filterMap_get, List.map_map]
  · refine List.ext_getElem (by simp) fun i h1 h2 => ?_
    have hi : i < z.length := by simpa using h1
    rw [List.getElem_map, List.getElem_range, List.getElem_reverse]
    show (S z).cps.getD (z.length - 1 - i) 0 = _
    have : z.length - 1 - i < z.length := by omega
    simp [Array.getD, S, this]
  · intro i hi
    obtain ⟨k, hk, rfl⟩ := List.mem_map.mp hi
    have := List.mem_range.mp hk
    show z.length - 1 - k < z.length
    omega
section
variable {X : Cx}
/-- s[::-1] -/
def tRevS (te : TE) : TE := fun σ H Q => te σ H fun x H1 => ∃ z : List Nat, x = .str (S z) ∧ z.length ≤ sizeLine ∧ Q (.str (S z.reverse)) H1
theorem pe_revS {e : Expr} {te : TE} {k : Nat} {p1 p2 p3 pos : Pos} (he : PE X e te) : PE X (.Subscript e (.Slice none none (some (.UnaryOp .USub (.Constant (.int 1) k p1) p2)) p3) pos) (tRevS te) := by
  refine ⟨fun pins s σ H Q I h => ?_⟩
  refine Subscript_ (thn (he.run pins s σ H _ I h) fun v s1 ⟨x, H1, I1, r1, q1⟩ => ?_)
  obtain ⟨z, ex, hz, q⟩ := q1
  subst ex
  obtain ⟨t, rfl⟩ := r1
  have hst : PO X (some (.UnaryOp .USub (.Constant (.int 1) k p1) p2)) (tPart (tUn (rU fun i => .int (-i)) (tC (.int 1)))) := po_some (pe_un un_neg pe_int)
  refine wpAny_Slice (thn (po_none.run pins s1 σ H1 (fun o H2 => o = none ∧ H2 = H1) I1 ⟨rfl, rfl⟩) fun vl s2 ⟨l, H2, I2, pl, el, e2⟩ => ?_)
  subst el e2
  refine thn (po_none.run pins s2 σ H2 (fun o H3 => o = none ∧ H3 = H2) I2 ⟨rfl, rfl⟩) fun vu s3 ⟨u, H3, I3, pu, eu, e3⟩ => ?_
  subst eu e3
  refine thn (hst.run pins s3 σ H3 (fun o H4 => o = some (-1) ∧ H4 = H3) I3 ⟨1, rfl, -1, rfl, rfl, rfl⟩) fun vs s4 ⟨o, H4, I4, ps, eo, e4⟩ => ?_
  subst eo e4
  have I5 : Inv X pins σ H4 { s4 with heap := s4.heap.push { cls := .type "slice", data := .fields #[vl, vu, vs] } } := I4.kept (t' := s4.toks) fun b ob q => Heap.get?_push_of_some _ q
  show wpAny (model X.prog X.w) X.A (subscriptTail e (.Slice none none (some (.UnaryOp .USub (.Constant (.int 1) k p1) p2)) p3) (.str (S z) t) (.ref s4.heap.objs.size)) (EP X pins σ Q) X.xe { s4 with heap := s4.heap.push { cls := .type "slice", data := .fields #[vl, vu, vs] } }
  refine tail_any (ops := [.str (S z) t, .ref s4.heap.objs.size]) (typeIs_str _ _ _) F.slot_str_getitem.lookup ?_ (by with_unfolding_all rfl)
  obtain ⟨l, rfl, el⟩ := IsPart.raw pl
  obtain ⟨u, rfl, eu⟩ := IsPart.raw pu
  obtain ⟨st, rfl, es⟩ := IsPart.raw ps
  refine wpAny_getItem_str_slice (l := l) (u := u) (st := st) ⟨_, Heap.get?_push_size _ rfl, rfl, rfl⟩ (by rw [es]; decide) ?_
  unfold sliceMade slicePicked
  rw [es, el, eu]
  have hr := rev_S z
  show Made.post (.str ⟨((Builtin.Str.strSliceIndices none none (-1) (S z).length).filterMap ((S z).cps[·]?)).toArray⟩) _ _
  rw [hr]
  exact ⟨by rw [S_len, List.length_reverse]; exact hz, .str _, H4, I5.tok _, ⟨_, rfl⟩, q⟩
/-- s * n -/
theorem foldl_arr {α : Type} : ∀ (n : Nat) (w : Array α) (acc : Array α), ((List.replicate n w).foldl (fun a b => a ++ b) acc).toList = acc.toList ++ (List.replicate n w.toList).flatten
  | 0, _, _ => by simp
  | n + 1, w, acc => by
    rw [List.replicate_succ, List.foldl_cons, foldl_arr n w (acc ++ w), List.replicate_succ, List.flatten_cons, Array.toList_append, List.append_assoc]
theorem op_repS : OpR X (binaryOp .Mult) (fun x y H Q => ∃ (z : List Nat) (n : Nat), x = .str (S z) ∧ y = .int n ∧ n ≤ 1000 ∧ z.length ≤ 1000 ∧ Q (.str (S (List.replicate n z).flatten)) H) := by
  intro pins s σ H x y v u Q I rx ry h
  obtain ⟨z, n, rfl, rfl, hn, hz, q⟩ := h
  obtain ⟨t, rfl⟩ := rx
  obtain ⟨t', rfl⟩ := ry
  have hl : (List.replicate n z).flatten.length = n * z.length := by simp
  have hm : n * z.length ≤ 1000 * 1000 := Nat.mul_le_mul hn hz
  refine P.mul_str (by simp; omega) (fun h1 h2 => ?_) (fun h1 h2 => ?_) ?_
  · rw [S_len]
    have hn0 : (0 : Int) < n := by omega
    have h3 : (1000 : Int) ≤ (2 ^ 63 - 1) / (n : Int) := by
      refine (Int.le_ediv_iff_mul_le hn0).mpr ?_
      have : (1000 : Int) * n ≤ 1000 * 1000 := Int.mul_le_mul_of_nonneg_left (by omega) (by decide)
      omega
    omega
  · rw [S_len, Int.toNat_natCast, Nat.mul_comm]
    have : n * z.length ≤ sizeLine := by rw [sizeLine_eq]; omega
    unfold Builtin.Str.tooLong
    simp
    omega
  · by_cases h1 : (n : Int) < 1
    · rw [if_pos h1]
      have e : n = 0 := by omega
      subst e
      exact ⟨by decide, .str _, H, I.tok _, ⟨_, rfl⟩, q⟩
    · rw [if_neg h1]
      by_cases h2 : ((n : Int) == 1 || (S z).length == 0) = true
      · rw [if_pos h2]
        have e : (List.replicate n z).flatten = z := by
          rw [Bool.or_eq_true, beq_iff_eq, beq_iff_eq, S_len] at h2
          rcases h2 with h2 | h2
          · have : n = 1 := by omega
            subst this
            simp
          · rw [List.length_eq_zero_iff.mp h2]
            simp
        rw [e] at q
        exact ⟨.str _, H, I, ⟨_, rfl⟩, q⟩
      · rw [if_neg h2]
        have e : (⟨(List.replicate (n : Int).toNat (S z).cps).foldl (· ++ ·) #[]⟩ : Str) = S (List.replicate n z).flatten := by
          refine TL.ext_tl ?_
          show ((List.replicate (n : Int).toNat (S z).cps).foldl (· ++ ·) #[]).toList = _
          rw [Int.toNat_natCast, foldl_arr]
          rfl
        rw [e]
        exact ⟨by rw [S_len, hl, sizeLine_eq]; omega, .str _, H, I.tok _, ⟨_, rfl⟩, q⟩
/-- a % b, a // b of natural numbers -/
theorem fmodN (k n : Nat) : Int.fmod (k : Int) (n : Int) = ((k % n : Nat) : Int) := by
  rw [Int.fmod_eq_emod_of_nonneg _ (by omega)]
  rfl
theorem op_modZ : OpR X (binaryOp .Mod) (fun x y H Q => ∃ (k n : Nat), x = .int k ∧ y = .int n ∧ n ≠ 0 ∧ Q (.int ((k % n : Nat) : Int)) H) := by
  intro pins s σ H x y v u Q I rx ry h
  obtain ⟨k, n, e1, e2, h0, q⟩ := h
  refine op_modN pins s σ H x y v u Q I rx ry ⟨_, _, e1, e2, by omega, ?_⟩
  rw [← fmodN] at q
  exact q
theorem op_fdivZ : OpR X (binaryOp .FloorDiv) (fun x y H Q => ∃ (k n : Nat), x = .int k ∧ y = .int n ∧ n ≠ 0 ∧ n < 2 ^ 29 ∧ Q (.int ((k / n : Nat) : Int)) H) := by
  intro pins s σ H x y v u Q I rx ry h
  obtain ⟨k, n, e1, e2, h0, h1, q⟩ := h
  refine op_fdivN pins s σ H x y v u Q I rx ry ⟨_, _, e1, e2, ⟨by omega, by omega⟩, ?_⟩
  have : Int.fdiv (k : Int) (n : Int) = ((k / n : Nat) : Int) := by
    rw [Int.fdiv_eq_ediv_of_nonneg _ (by omega)]
    rfl
  rw [← this] at q
  exact q
theorem op_mulZ : OpR X (binaryOp .Mult) (fun x y H Q => ∃ (k n : Nat), x = .int k ∧ y = .int n ∧ k < 2 ^ 1000 ∧ n < 2 ^ 1000 ∧ Q (.int ((k * n : Nat) : Int)) H) := by
  intro pins s σ H x y v u Q I rx ry h
  obtain ⟨k, n, e1, e2, h0, h1, q⟩ := h
  refine op_mulW pins s σ H x y v u Q I rx ry ⟨_, _, e1, e2, wide_mul (a := 1000) (b := 1000) h0 h1 (by decide) (by decide) (by decide), ?_⟩
  rw [Int.natCast_mul] at q
  exact q
/-- len of a list that is tracked (it may stand in a comprehension) -/
theorem call_lenH : CallR X (.builtin "len") (fun xs H Q => ∃ (p : Addr) (ys : List V), xs = [.ref p] ∧ H p = some (.lst ys) ∧ Q (.int (ys.length : Nat)) H) := by
  intro pins s σ H xs us Q I r h
  obtain ⟨p, ys, e, hp, q⟩ := h
  exact call_len_seq pins s σ H xs us Q I r ⟨p, ys, e, .inl (.inl (.inl hp)), q⟩
end
end CK

set_option Elab.async false
set_option linter.all false
set_option maxRecDepth 100000
set_option maxHeartbeats 2000000
/-! any of a tuple of numbers -/
namespace CK
open PySem PySem.Spec PyProof.Rows L2 SX
theorem plain_ints : ∀ ns : List Int, PyData.plainAll (ns.map PyData.int) = true
  | [] => by simp [PyData.plainAll]
  | n :: ns => by
    rw [List.map_cons, PyData.plainAll, plain_ints ns]
    simp [PyData.plain]
theorem any_ints (ns : List Nat) : ((ns.map fun n : Nat => ((n : Nat) : Int)).map PyData.int).any PyData.truthy = ns.any fun x => decide (x ≠ 0) := by
  induction ns with
  | nil => rfl
  | cons n ns ih =>
    rw [List.map_cons, List.map_cons, List.any_cons, List.any_cons, ih]
    congr 1
    show ((n : Int) != 0) = decide (n ≠ 0)
    by_cases h : n = 0
    · subst h
      rfl
    · rw [decide_eq_true h, bne_iff_ne]
      omega
section
variable {X : Cx}
theorem cr_anyN (hc : X.calm = true) : CallR X (.builtin "any") (fun vs H Q => ∃ (a : Addr) (ns : List Nat), vs = [V.ref a] ∧ H a = some (.tup (ns.map fun n : Nat => V.int (n : Nat))) ∧ Q (.bl (ns.any fun x => decide (x ≠ 0))) H) := by
  intro pins s σ H vs us Q I r h
  obtain ⟨a, ns, rfl, ha, q⟩ := h
  obtain ⟨its, rv, hT, _⟩ := I.tuple (.inl (.inl ha))
  rw [Vals.ref1 r]
  have e : (ns.map fun n : Nat => V.int (n : Nat)) = (ns.map fun n : Nat => ((n : Nat) : Int)).map V.int := by
    rw [List.map_map]
    rfl
  rw [e] at rv
  obtain ⟨as, hr⟩ := Dp.readsAll I _ _ its (dpAll_ints _) rv
  refine PySem.W.any_tuple_data (I.ok.hd hc) hT (by rw [List.toList_toArray]; exact hr) (plain_ints _) (fun x hx => ?_) fun h' tk hk => ?_
  · obtain ⟨i, _, rfl⟩ := List.mem_map.mp hx
    trivial
  · rw [any_ints]
    exact ⟨.bl _, H, I.kept (t' := tk) hk, rfl, q⟩
end
end CK
namespace CK
open PySem PySem.Spec PyProof.Rows L2 SX
section
variable {X : Cx}
/-- a whole number and a Boolean -/
theorem op_addB : OpR X (binaryOp .Add) (fun x y H Q => ∃ (i : Int) (b : Bool), x = .int i ∧ y = .bl b ∧ Q (.int (i + if b = true then (1 : Int) else 0)) H) := by
  intro pins s σ H x y v u Q I rx ry h
  obtain ⟨i, b, rfl, rfl, q⟩ := h
  obtain ⟨t, rfl⟩ := rx
  obtain rfl : u = Value.bool b := ry
  exact add_int_bool ⟨.int _, H, I.tok _, ⟨_, rfl⟩, q⟩
end
end CK
namespace CK
open PySem PySem.Spec PyProof.Rows L2 SX
theorem vals_of_get : ∀ (vs : List V) (us : List Value), us.length = vs.length → (∀ (j : Nat) (v : V) (u : Value), vs[j]? = some v → us[j]? = some u → RelV v u) → Vals vs us
  | [], [], _, _ => .nil
  | [], _ :: _, h, _ => by simp at h
  | _ :: _, [], h, _ => by simp at h
  | v :: vs, u :: us, h, g => .cons (g 0 v u rfl rfl) (vals_of_get vs us (by simpa using h) fun j a b ha hb => g (j + 1) a b (by simpa using ha) (by simpa using hb))
section
variable {X : Cx}
/-- list(text): its letters -/
theorem call_listS (hc : X.calm = true) : CallR X (.type "list") (fun xs H Q => ∃ z : List Nat, xs = [.str (S z)] ∧ z.length ≤ 1000000 ∧ ∀ l, H l = none → Q (.ref l) (upd H l (.lst (z.map fun c => V.str (S [c]))))) := by
  intro pins s σ H xs us Q I r h
  obtain ⟨z, rfl, hz, q⟩ := h
  obtain ⟨u, rfl, rx⟩ := vals1 r
  obtain ⟨t, rfl⟩ := rx
  have sz : (S z).cps.size = z.length := S_len z
  refine call_list_str (I.ok.hd hc) (S z) t (fun h' tk acc' c' hk hS hacc => ?_) (by rw [sz, sizeLine_eq]; omega)
  refine ⟨.ref s.heap.objs.size, upd H s.heap.objs.size (.lst (z.map fun c => V.str (S [c]))), I.laid (t' := tk) hk (Nat.le_refl _) ?_, rfl, q _ (I.hok.fresh (Nat.le_refl _))⟩
  refine ⟨by rw [List.length_map, sizeLine_eq]; omega, acc'.toList, c', vals_of_get _ _ (by rw [List.length_map, Array.length_toList, hacc.1, sz]) fun j v u hv hu => ?_, by simpa using hS⟩
  obtain ⟨c, tt, hc', rfl⟩ := hacc.2 j u (by simpa using hu)
  rw [List.getElem?_map] at hv
  have e : z[j]? = some c := by
    have : (S z).cps[j]? = some c := hc'
    simpa [S] using this
  rw [e] at hv
  cases hv
  exact ⟨tt, rfl⟩
end
end CK
namespace CK
open PySem PySem.Spec PyProof.Rows L2 SX
section
variable {X : Cx} {o e : Expr} {es : List Expr} {to : TE} {t : TA} {name : Str} {apos cpos : Pos} {T id : String} {r : V → List V → Hp → VK → Prop}
/-- a built-in's method, where the written part is told apart (it may stand in a comprehension) -/
theorem pe_bmB {K : PySem.W.Frag} (hK : X.K = K) (pa : PlainAttrs T) (slot : Slot T name id) (hty : typeOf (.builtin id) = pure (.type "method_descriptor")) (hm : MtR X id r) (ho : PE X o to) (ha : PA X (e :: es) t)
    (hb : attributeBase o name X.env (eval o X.env) = eval o X.env := by rfl)
    (hf : ((backTo cpos (starEach (e :: es) X.env)).all (fun x => !x.1) && (backToKw cpos (keywordEach [] X.env)).all (fun x => x.1.isSome) && decide ((e :: es).length + ([] : List Keyword).length + (if ([] : List Keyword).isEmpty then 0 else 1) < 30)) = true := by rfl)
    (hl : (apos.endLine == cpos.line) = true := by rfl) (hs : starEach (e :: es) X.env = (false, eval e X.env) :: starEach es X.env := by rfl) (hp : (backTo cpos (starEach es X.env)).any (·.1) = false := by rfl) :
    PE X (.Call (.Attribute o name apos) (e :: es) [] cpos) (tBM K T r to t) := by
  subst hK
  exact pe_bm pa slot hty hm ho ha hb hf hl hs hp
end
end CK

set_option Elab.async false
set_option linter.all false
set_option maxRecDepth 100000
set_option maxHeartbeats 2000000
/-! any of a list of numbers -/
namespace CK
open PySem PySem.Spec PyProof.Rows L2 SX
section
variable {X : Cx}
theorem cr_anyL (hc : X.calm = true) : CallR X (.builtin "any") (fun vs H Q => ∃ (a : Addr) (ns : List Nat), vs = [V.ref a] ∧ H a = some (.lst (ns.map fun n : Nat => V.int (n : Nat))) ∧ Q (.bl (ns.any fun x => decide (x ≠ 0))) H) := by
  intro pins s σ H vs us Q I r h
  obtain ⟨a, ns, rfl, ha, q⟩ := h
  obtain ⟨its, rv, hT, _⟩ := I.list (.inl (.inl ha))
  rw [Vals.ref1 r]
  have e : (ns.map fun n : Nat => V.int (n : Nat)) = (ns.map fun n : Nat => ((n : Nat) : Int)).map V.int := by
    rw [List.map_map]
    rfl
  rw [e] at rv
  obtain ⟨as, hr⟩ := Dp.readsAll I _ _ its (dpAll_ints _) rv
  refine PySem.W.any_list_data (I.ok.hd hc) hT.isList (by rw [List.toList_toArray]; exact hr) (plain_ints _) (fun x hx => ?_) fun h' tk hk => ?_
  · obtain ⟨i, _, rfl⟩ := List.mem_map.mp hx
    trivial
  · rw [any_ints]
    exact ⟨.bl _, H, I.kept (t' := tk) hk, rfl, q⟩
/-- over a list, with the written part told apart (it may stand in a comprehension) -/
theorem pi_listK {K : PySem.W.Frag} (hK : X.K = K) {tg l : Expr} {tl : TE} (hl : PE X l tl) : PI X tg l (iList K tl) := by
  subst hK
  exact pi_list hl
end
end CK

set_option Elab.async false
set_option linter.all false
set_option maxRecDepth 100000
set_option maxHeartbeats 2000000
/-! defs that are called with no repr under way; repr of data -/
namespace CK
open PySem PySem.Spec PyProof.Rows L2
/-- what a def promises where no repr is under way -/
structure FnG (P : Program) (w : World) (K : PySem.W.Frag) (mg : Str → Option Value) (base : Heap) (k : Nat) (f : Addr) (fd : FuncData) (ps : List Str) (sp : Sp) : Prop where
  len : ∀ vs H Q E, sp vs H Q E → vs.length = ps.length
  go : ∀ (A : Around) (outer : List Env) (z : Shared) (H : Hp) (args : Args) (us : List Value) (vs : List V) (Q : VK) (E : XK), Room k A → A.guards = some [] → Env0 P w K mg base A outer z H → BindsTo z fd args (ps.zip us) →
    Vals vs us → sp vs H Q E → codeAny (model P w) A (.call (.ref f) args) (CR C8.CX0 outer P w H z Q E) z
theorem FnG.of {P : Program} {w : World} {K : PySem.W.Frag} {mg : Str → Option Value} {base : Heap} {k : Nat} {f : Addr} {fd : FuncData} {ps : List Str} {sp : Sp} (F : FnOk P w K mg base C8.CX0 k f fd ps sp) : FnG P w K mg base k f fd ps sp :=
  ⟨F.len, fun A outer z H args us vs Q E hr _ e0 hb r h => F.run A outer z H args us vs Q E hr e0 hb r h⟩
theorem fnG_of {P : Program} {w : World} {K : PySem.W.Frag} {mg : Str → Option Value} {base : Heap} {k : Nat} {f : Addr} {x : Str} {st : Stmt} {fd : FuncData} {N ps : List Str} {sp : Sp} (F : C8.Fun K x x st f fd) (S : FnScope N ps (C8.fnScope st))
    (len : ∀ vs H Q E, sp vs H Q E → vs.length = ps.length)
    (body : ∀ (cdv : Value) (A : Around) (outer : List Env) (z : Shared) (H : Hp) (vs : List V) (Q : VK) (E : XK), Room k (A.deeper (envOfC x (C8.fnScope st) z.heap.objs.size f cdv)) → A.guards = some [] → sp vs H Q E →
      ∃ t, PSs (cxOf C8.CX0 P w K mg base N x (C8.fnScope st) f cdv A outer z H E).nox (C8.fnBody st) t ∧ t { nx := fun _ H' => Q .non H', rt := Q } (start N vs) H) : FnG P w K mg base (k + 1) f fd ps sp := by
  obtain ⟨_, _, _, _, _, _, _, cdv, _, _, rfl, lk, hc⟩ := F.ex
  refine ⟨len, fun A outer z H args us vs Q E room gd en bnd va want => ?_⟩
  have ln := len _ _ _ _ want
  have up : ∀ b o, base.get? b = some o → z.heap.get? b = some o := fun b o e => (en.bs b o e).1
  have inK : K.In z.heap := en.mod.kin.keeps up
  have kinds : ∀ y ∈ ps.zip us, (C8.fnScope st).names.lookup y.1 = some .local ∨ ((C8.fnScope st).names.lookup y.1 = some .cell ∧ ((cellsFrom (z.heap.objs.size + 1) (C8.fnScope st).names []).lookup y.1).isSome = true) := by
    intro y hy
    have := S.par y.1 (List.of_mem_zip (a := y.1) (b := y.2) hy).1
    cases this with
    | inl a => exact .inl a
    | inr a => exact .inr ⟨a, PySem.W.cellsFrom_some _ _ _ (.inl a)⟩
  refine codeAny_call_function room.depth (inK _ _ lk) rfl S.co S.gen rfl (PySem.W.codeRec_of inK hc) (bnd _ _ _ _ (wpAny_newFunctionEnv_cells S.kind kinds fun env he z1 call => ?_))
  subst he
  refine ⟨(en.mod.nolimit.keeps up).keeps call.toInCall.keep, codeAny_func ?_⟩
  obtain ⟨t, ht, ok⟩ := body cdv A outer z H vs Q E (room.deeper _) gd want
  refine wpAny_mono (ht.nox.run [] z1 (start N vs) H _ (inv_start S room.hd en ln va call) ok) (fun fl z' got => ?_) fun e z' got => got
  have last : ∀ {σ' : L2.St} {H' : Hp} {v : V} {u : Value}, Inv (cxOf C8.CX0 P w K mg base N x (C8.fnScope st) f cdv A outer z H E) [] σ' H' z' → RelV v u → Q v H' → CE outer P w H z Q u z' :=
    fun {_ H' v _} J a b => ⟨v, H', J.os, J.bare, J.base, J.hok, a, b⟩
  cases fl with
  | ret u =>
    obtain ⟨v, _, H', J, a, b⟩ := got
    exact last J a b
  | next =>
    obtain ⟨_, H', J, b⟩ := got
    exact last (v := V.non) (u := Value.none) J rfl b
  | brk => exact got.choose_spec.choose_spec.2.elim
  | cont => exact got.choose_spec.choose_spec.2.elim
/-- a def by its name -/
structure CalG (P : Program) (w : World) (K : PySem.W.Frag) (mg : Str → Option Value) (base : Heap) (k : Nat) (x : Str) (sp : Sp) : Prop where
  ex : ∃ (f : Addr) (fd : FuncData) (ps : List Str), FnG P w K mg base k f fd ps sp ∧ mg x = some (.ref f) ∧ PySem.W.keepIn K (.ref f) = true ∧ Binds K fd ps []
theorem calG {P : Program} {w : World} {K : PySem.W.Frag} {mg : Str → Option Value} {base : Heap} {x : Str} {st : Stmt} {N ps : List Str} {k : Nat} {sp : Sp} (D : DefF K mg x st ps) (S : FnScope N ps (C8.fnScope st))
    (len : ∀ vs H Q E, sp vs H Q E → vs.length = ps.length)
    (body : ∀ (f : Addr) (cdv : Value) (A : Around) (outer : List Env) (z : Shared) (H : Hp) (vs : List V) (Q : VK) (E : XK), Room k (A.deeper (envOfC x (C8.fnScope st) z.heap.objs.size f cdv)) → A.guards = some [] → sp vs H Q E →
      ∃ t, PSs (cxOf C8.CX0 P w K mg base N x (C8.fnScope st) f cdv A outer z H E).nox (C8.fnBody st) t ∧ t { nx := fun _ H' => Q .non H', rt := Q } (start N vs) H) : CalG P w K mg base (k + 1) x sp := by
  obtain ⟨f, fd, F, b⟩ := D.ex
  exact ⟨f, fd, ps, fnG_of F.fn S len (body f), F.mgf, F.kp, .all b⟩
section
variable {X : Cx} {k j : Nat} {x : Str} {sp : Sp} {p pos : Pos} {e : Expr} {es : List Expr} {t : TA}
theorem run_fnG {pins : List (Addr × Obj)} {σ : L2.St} {H : Hp} {z : Shared} {Q : VK} {us : List Value} {vs : List V} {f : Addr} {fd : FuncData} {ps : List Str} (F : FnG X.prog X.w X.K X.mg X.base k f fd ps sp) (room : Room k X.A) (gd : X.A.guards = some [])
    (b : Binds X.K fd ps []) (I : Inv X pins σ H z) (r : Vals vs us) (h : sp (vs ++ []) H Q E0) : wpAny (model X.prog X.w) X.A (call (.ref f) us) (EP X pins σ Q) X.xe z := by
  rw [List.append_nil] at h
  have ll : (us ++ []).length = ps.length := by
    rw [List.append_nil, ← r.length]
    exact F.len _ _ _ _ h
  have bb := b z us I.kIn ll
  rw [List.append_nil] at bb
  refine wpAny_call (codeAny_mono (F.go X.A X.stack z H ⟨us, []⟩ us vs Q E0 room gd I.env0 bb r h) fun res z' got => ?_)
  match res, got with
  | .ok (.ret u), got => exact I.after got
  | .error e, got => exact pass0 pins σ H z e z' I got
theorem pe_cG (c : CalG X.prog X.w X.K X.mg X.base k x sp) (hr : Room j X.A) (gd : X.A.guards = some []) (hk : k ≤ j) (hg : Gl X x) (ha : PA X (e :: es) t)
    (hdb : (x == ("__debug__" : Str)) = false := by decide) (he : starEach (e :: es) X.env = (false, eval e X.env) :: starEach es X.env := by rfl) (hpl : (backTo pos (starEach es X.env)).any (·.1) = false := by rfl) :
    PE X (.Call (.Name x p) (e :: es) [] pos) (tCall sp [] E0 t) := by
  obtain ⟨f, fd, ps, F, hm, kp, b⟩ := c.ex
  refine ⟨fun pins s σ H Q I h => wpAny_Call_Name_kw (ld_glob I hg hm ?_ hdb)⟩
  exact PySem.W.callWith_K (h₀ := X.base) I.ok.mod.kin kp (thn (ha.run pos pins s σ H _ I h) fun us s1 ⟨vs, H1, I1, r, q⟩ => ⟨I1.kIn, run_fnG F (hr.mono hk) gd b I1 r q⟩) he hpl
theorem pe_cG0 (c : CalG X.prog X.w X.K X.mg X.base k x sp) (hr : Room j X.A) (gd : X.A.guards = some []) (hk : k ≤ j) (hg : Gl X x)
    (hdb : (x == ("__debug__" : Str)) = false := by decide) :
    PE X (.Call (.Name x p) [] [] pos) (tCall sp [] E0 tNil) := by
  obtain ⟨f, fd, ps, F, hm, kp, b⟩ := c.ex
  refine ⟨fun pins s σ H Q I h => wpAny_Call_Name_kw (ld_glob I hg hm ?_ hdb)⟩
  exact PySem.W.callWith_K0 I.kIn kp (run_fnG (us := []) F (hr.mono hk) gd b I .nil h)
/-- repr of data -/
theorem call_repr (hr : Room j X.A) (gd : X.A.guards = some []) : CallR X (.builtin "repr") (fun xs H Q => ∃ (v : V) (d : PyData), xs = [v] ∧ Dp X.K H v d ∧ d.showable = true ∧ d.hasDict = false ∧ d.depth ≤ 60 ∧ d.shown.length ≤ sizeLine ∧ Q (.str d.shown) H) := by
  intro pins s σ H xs us Q I r h
  obtain ⟨v, d, rfl, dp, hs, hd, hdep, hz, q⟩ := h
  obtain ⟨u, rfl, rx⟩ := vals1 r
  obtain ⟨as, rd⟩ := Dp.reads I d v u dp rx
  have hu := hr.units
  have fin : ∀ (a : Addr) (d : PyData), Reads s.heap (.ref a) d as → d.showable = true → d.hasDict = false → d.depth ≤ 60 → d.shown.length ≤ sizeLine → Q (.str d.shown) H →
      wpAny (model X.prog X.w) X.A (call (.builtin "repr") [.ref a]) (EP X pins σ Q) X.xe s := fun a d rd hs hd hdep hz q =>
    repr_of_reads' rd hs (PyData.noDict_hsm hd) gd (by omega) (fun _ _ e => e) (fun h' u tk hk => ⟨.str _, H, I.kept (t' := tk) hk, ⟨u, rfl⟩, q⟩) hz
  cases rd with
  | none => exact PySem.P.repr_of_none ⟨.str _, H, I.tok _, ⟨_, rfl⟩, by simpa only [PyData.shown] using q⟩
  | bool b => exact PySem.P.repr_of_bool ⟨.str _, H, I.tok _, ⟨_, rfl⟩, by simpa only [PyData.shown] using q⟩
  | int i t => exact PySem.P.repr_of_int (by simpa [PyData.showable] using hs) ⟨.str _, H, I.tok _, ⟨_, rfl⟩, by simpa only [PyData.shown] using q⟩
  | str y t => exact PySem.P.repr_of_str ⟨.str _, H, I.tok _, ⟨_, rfl⟩, by simpa only [PyData.shown] using q⟩ (by simpa only [PyData.shown] using hz)
  | list a b c e => exact fin _ _ (.list a b c e) hs hd hdep hz q
  | tuple a b c e => exact fin _ _ (.tuple a b c e) hs hd hdep hz q
  | dict a b c e g => exact fin _ _ (.dict a b c e g) hs hd hdep hz q
end
end CK

set_option Elab.async false
set_option linter.all false
set_option maxRecDepth 100000
set_option maxHeartbeats 2000000
/-! comprehensions with a test; equality of data made of whole numbers -/
namespace CK
open PySem PySem.Spec PyProof.Rows L2
/-- n turns, each kept if b i, giving f i, leaving all that was tracked -/
theorem lc_filtW {J : It} {n : Nat} {G : Hp → Prop} {Y : Nat → Hp → V → Hp → Prop} (w : Walk J n G Y) {g : TG} {tt : TT} {te : TE} {vs : List Nat} {σ : L2.St} {H1 : Hp} {D : Addr} {Qd : Hp → Prop} (b : Nat → Bool) (f : Nat → V) (hn : n < sizeLine)
    (hG : ∀ H, Same H1 H → G H)
    (hs : ∀ (i : Nat) (x : V) (H H' : Hp) (R : VK) (R0 : Hp → Prop), i < n → Same H1 H → Y i H x H' → (b i = true → ∀ H'', Same H H'' → R (f i) H'') → (b i = false → ∀ H'', Same H H'' → R0 H'') →
      g x (wipe σ vs) H' fun σ2 H2 => wipe σ2 vs = wipe σ vs ∧ tt σ2 H2 fun c H3 => if c = true then te σ2 H3 R else R0 H3)
    (hD : H1 D = none) (hd : ∀ H : Hp, Same H1 H → H D = some (.lst (((List.range n).filter b).map f)) → Qd H) :
    ∃ W : Nat → Nat → Hp → Prop, (∃ m, W 0 m (upd H1 D (.lst []))) ∧ ∀ i m H, W i m H →
      (J.stop i H ∧ Qd H) ∨ (J.go i H ∧ ∃ Nx : Hp → Prop, (∀ H', Nx H' → ∃ m', m' < m ∧ W (i + 1) m' H') ∧ ∀ x H', J.yld i H x H' → g x (wipe σ vs) H' fun σ2 H2 => wipe σ2 vs = wipe σ vs ∧ tt σ2 H2 fun b H3 =>
        if b = true then te σ2 H3 fun y H4 => ∃ acc, H4 D = some (.lst acc) ∧ acc.length < sizeLine ∧ Nx (upd H4 D (.lst (acc ++ [y]))) else Nx H3) := by
  refine lc_it w (fun i H => Same H1 H ∧ H D = some (.lst (((List.range i).filter b).map f)) ∧ i ≤ n) ⟨sameNew hD, upd_same, Nat.zero_le _⟩ (fun i H _ p => hG H p.1) (fun i x H H' hi p y => ?_) fun H p => hd H p.1 p.2.1
  refine hs i x H H' _ _ hi p.1 y (fun hb H'' s => ?_) fun hb H'' s => ?_
  · refine ⟨_, s D _ p.2.1, ?_, same_upd2 hD (p.1.trans s), ?_, hi⟩
    · have := List.length_filter_le b (List.range i)
      rw [List.length_range] at this
      rw [List.length_map]
      omega
    · rw [upd_same, List.range_succ, List.filter_append, List.map_append, List.filter_cons_of_pos hb]
      rfl
  · refine ⟨p.1.trans s, ?_, hi⟩
    rw [s D _ p.2.1, List.range_succ, List.filter_append, List.filter_cons_of_neg (by rw [hb]; exact Bool.false_ne_true), List.filter_nil, List.append_nil]
theorem filt_nil (b : Nat → Bool) (f : Nat → V) (n : Nat) : ((List.range n).filter b).map f = [] ↔ ∀ i, i < n → b i = false := by
  rw [List.map_eq_nil_iff, List.filter_eq_nil_iff]
  constructor
  · intro h i hi
    have := h i (List.mem_range.mpr hi)
    simpa using this
  · intro h i hi
    rw [h i (List.mem_range.mp hi)]
    exact Bool.false_ne_true
/-- over zip -/
theorem lcZ_filt {K : PySem.W.Frag} {k k' : Kd} {a c : Addr} {xs ys : List V} {i1 i2 : Nat} {tt : TT} {te : TE} {vs : List Nat} {σ : L2.St} {H1 : Hp} {D : Addr} {Qd : Hp → Prop} (b : Nat → Bool) (f : Nat → V) (hl : xs.length = ys.length) (hn : xs.length < sizeLine)
    (ha : ∀ H, Same H1 H → SqB K k H a xs ∧ SqB K k' H c ys)
    (hs : ∀ (i : Nat) (x y : V) (H : Hp) (R : VK) (R0 : Hp → Prop), xs[i]? = some x → ys[i]? = some y → Same H1 H → (b i = true → ∀ H', Same H H' → R (f i) H') → (b i = false → ∀ H', Same H H' → R0 H') →
      wipe (((wipe σ vs).set i1 (some x)).set i2 (some y)) vs = wipe σ vs ∧ tt (((wipe σ vs).set i1 (some x)).set i2 (some y)) H fun c H3 => if c = true then te (((wipe σ vs).set i1 (some x)).set i2 (some y)) H3 R else R0 H3)
    (hD : H1 D = none) (hd : ∀ H : Hp, Same H1 H → H D = some (.lst (((List.range xs.length).filter b).map f)) → Qd H) :
    ∃ W : Nat → Nat → Hp → Prop, (∃ m, W 0 m (upd H1 D (.lst []))) ∧ ∀ i m H, W i m H →
      ((ItB K k k' a c).stop i H ∧ Qd H) ∨ ((ItB K k k' a c).go i H ∧ ∃ Nx : Hp → Prop, (∀ H', Nx H' → ∃ m', m' < m ∧ W (i + 1) m' H') ∧ ∀ x H', (ItB K k k' a c).yld i H x H' → gTup K 2 (gCons (gName i1) (gCons (gName i2) gNil)) x (wipe σ vs) H' fun σ2 H2 => wipe σ2 vs = wipe σ vs ∧ tt σ2 H2 fun b H3 =>
        if b = true then te σ2 H3 fun y H4 => ∃ acc, H4 D = some (.lst acc) ∧ acc.length < sizeLine ∧ Nx (upd H4 D (.lst (acc ++ [y]))) else Nx H3) := by
  refine lc_filtW (walkB (K := K) (k := k) (k' := k') (a := a) (b := c) hl) b f hn ha (fun i v H H' R R0 hi s y q q0 => ?_) hD hd
  obtain ⟨T, x, y, rfl, hT, rfl, hx, hy⟩ := y
  have hx : xs[i]? = some x := hx
  have hy : ys[i]? = some y := hy
  have st : Same H (upd H T (.tup [x, y])) := sameNew hT
  exact ⟨T, [x, y], rfl, .inl (.inl upd_same), rfl, x, [y], rfl, y, [], rfl, rfl, hs i x y _ R R0 hx hy (s.trans st) (fun hb H'' s' => q hb H'' (st.trans s')) fun hb H'' s' => q0 hb H'' (st.trans s')⟩
/-- over a list -/
theorem lcL_filt {K : PySem.W.Frag} {a : Addr} {xs : List V} {j : Nat} {tt : TT} {te : TE} {vs : List Nat} {σ : L2.St} {H1 : Hp} {D : Addr} {Qd : Hp → Prop} (b : Nat → Bool) (f : Nat → V) (ha : ∀ H, Same H1 H → SqL K H a xs) (hn : xs.length < sizeLine)
    (hs : ∀ (i : Nat) (x : V) (H : Hp) (R : VK) (R0 : Hp → Prop), xs[i]? = some x → Same H1 H → (b i = true → ∀ H', Same H H' → R (f i) H') → (b i = false → ∀ H', Same H H' → R0 H') →
      wipe ((wipe σ vs).set j (some x)) vs = wipe σ vs ∧ tt ((wipe σ vs).set j (some x)) H fun c H3 => if c = true then te ((wipe σ vs).set j (some x)) H3 R else R0 H3)
    (hD : H1 D = none) (hd : ∀ H : Hp, Same H1 H → H D = some (.lst (((List.range xs.length).filter b).map f)) → Qd H) :
    ∃ W : Nat → Nat → Hp → Prop, (∃ m, W 0 m (upd H1 D (.lst []))) ∧ ∀ i m H, W i m H →
      ((Itl K a).stop i H ∧ Qd H) ∨ ((Itl K a).go i H ∧ ∃ Nx : Hp → Prop, (∀ H', Nx H' → ∃ m', m' < m ∧ W (i + 1) m' H') ∧ ∀ x H', (Itl K a).yld i H x H' → gName j x (wipe σ vs) H' fun σ2 H2 => wipe σ2 vs = wipe σ vs ∧ tt σ2 H2 fun b H3 =>
        if b = true then te σ2 H3 fun y H4 => ∃ acc, H4 D = some (.lst acc) ∧ acc.length < sizeLine ∧ Nx (upd H4 D (.lst (acc ++ [y]))) else Nx H3) := by
  refine lc_filtW (walk_list (K := K) (a := a) (xs := xs)) b f hn ha (fun i v H H' R R0 hi s y q q0 => ?_) hD hd
  obtain ⟨rfl, hx⟩ := y
  exact hs i v H' R R0 hx s q q0
/-- over a tuple -/
theorem lcT_filt {K : PySem.W.Frag} {a : Addr} {xs : List V} {j : Nat} {tt : TT} {te : TE} {vs : List Nat} {σ : L2.St} {H1 : Hp} {D : Addr} {Qd : Hp → Prop} (b : Nat → Bool) (f : Nat → V) (ha : ∀ H, Same H1 H → SqT K H a xs) (hn : xs.length < sizeLine)
    (hs : ∀ (i : Nat) (x : V) (H : Hp) (R : VK) (R0 : Hp → Prop), xs[i]? = some x → Same H1 H → (b i = true → ∀ H', Same H H' → R (f i) H') → (b i = false → ∀ H', Same H H' → R0 H') →
      wipe ((wipe σ vs).set j (some x)) vs = wipe σ vs ∧ tt ((wipe σ vs).set j (some x)) H fun c H3 => if c = true then te ((wipe σ vs).set j (some x)) H3 R else R0 H3)
    (hD : H1 D = none) (hd : ∀ H : Hp, Same H1 H → H D = some (.lst (((List.range xs.length).filter b).map f)) → Qd H) :
    ∃ W : Nat → Nat → Hp → Prop, (∃ m, W 0 m (upd H1 D (.lst []))) ∧ ∀ i m H, W i m H →
      ((Itt K a).stop i H ∧ Qd H) ∨ ((Itt K a).go i H ∧ ∃ Nx : Hp → Prop, (∀ H', Nx H' → ∃ m', m' < m ∧ W (i + 1) m' H') ∧ ∀ x H', (Itt K a).yld i H x H' → gName j x (wipe σ vs) H' fun σ2 H2 => wipe σ2 vs = wipe σ vs ∧ tt σ2 H2 fun b H3 =>
        if b = true then te σ2 H3 fun y H4 => ∃ acc, H4 D = some (.lst acc) ∧ acc.length < sizeLine ∧ Nx (upd H4 D (.lst (acc ++ [y]))) else Nx H3) := by
  refine lc_filtW (walk_tup (K := K) (a := a) (xs := xs)) b f hn ha (fun i v H H' R R0 hi s y q q0 => ?_) hD hd
  obtain ⟨rfl, hx⟩ := y
  exact hs i v H' R R0 hx s q q0
/-- a tuple of the module's own -/
theorem tupF {K : PySem.W.Frag} {h : Heap} {mg : Str → Option Value} {x : Str} {f : Addr} {o : Obj} {its : Array Value} {n : Nat} {xs : List V} (X : K.In h) (G : h.Ns mainGlobals mg) (a : PySem.W.nsIn K mainGlobals x = some (some (.ref f))) (l : K.lookup f = some o)
    (hc : o.cls = .type "tuple") (hd : o.data = .seq its n) (hs : its.size ≤ sizeLine) (hv : Vals xs its.toList) : ∃ a, mg x = some (.ref a) ∧ ∀ H, SqT K H a xs :=
  ⟨f, PySem.W.mg_of X G a, fun H => .inr ⟨o, its, n, l, hc, hd, hs, hv⟩⟩
abbrev TupF (K : PySem.W.Frag) (mg : Str → Option Value) (x : Str) (xs : List V) : Prop := ∃ a, mg x = some (.ref a) ∧ ∀ H, SqT K H a xs
theorem with_tup {K : PySem.W.Frag} {h : Heap} {mg : Str → Option Value} (_ : K.In h) (x : Str) (xs : List V) {R : Prop} (d : TupF K mg x xs) (r : TupF K mg x xs → R) : R := r d
/-! data of whole numbers -/
theorem eqvAll_ints : ∀ f g : List Int, PyData.eqvAll (f.map PyData.int) (g.map PyData.int) = decide (f = g)
  | [], [] => by simp [PyData.eqvAll]
  | [], _ :: _ => by simp [PyData.eqvAll]
  | _ :: _, [] => by simp [PyData.eqvAll]
  | x :: f, y :: g => by
    rw [List.map_cons, List.map_cons, PyData.eqvAll, eqvAll_ints f g]
    simp [PyData.eqv, Bool.beq_eq_decide_eq]
theorem eqv_dI (f g : List Int) : PyData.eqv (dI f) (dI g) = decide (f = g) := by
  unfold dI
  simp only [PyData.eqv, eqvAll_ints]
def dLI (ns : List Int) : PyData := .list (ns.map PyData.int)
theorem eqv_dLI (f g : List Int) : PyData.eqv (dLI f) (dLI g) = decide (f = g) := by
  unfold dLI
  simp only [PyData.eqv, eqvAll_ints]
theorem shaped_dLI (ns : List Int) : SeqAt.shaped (dLI ns) = true := by
  unfold SeqAt.shaped dLI
  rw [PyData.canLay0, lay_ints, PyData.depth, deep_ints]
  decide
theorem dp_lints {K : PySem.W.Frag} {H : Hp} {a : Addr} {ns : List Int} (h : H a = some (.lst (ns.map V.int))) : Dp K H (.ref a) (dLI ns) := .lst (.inl (.inl h)) (dpAll_ints ns)
/-! repr of whole numbers -/
theorem shown_ints : ∀ ns : List Int, (∀ n ∈ ns, n.natAbs.log2 < 1920) → PyData.showableAll (ns.map PyData.int) = true
  | [], _ => by simp [PyData.showableAll]
  | n :: ns, h => by
    rw [List.map_cons, PyData.showableAll, shown_ints ns fun z hz => h z (List.mem_cons_of_mem _ hz)]
    simp [PyData.showable, h n List.mem_cons_self]
theorem noDict_ints : ∀ ns : List Int, PyData.hasDictAll (ns.map PyData.int) = false
  | [] => by simp [PyData.hasDictAll]
  | n :: ns => by
    rw [List.map_cons, PyData.hasDictAll, noDict_ints ns]
    simp [PyData.hasDict]
theorem piled_ints : ∀ ns : List Int, (∀ n ∈ ns, n.natAbs.log2 < 1920) → piled (PyData.shownAll (ns.map PyData.int)) ≤ ns.length * 1923
  | [], _ => Nat.zero_le _
  | n :: ns, h => by
    have a1 := int_text_length_le (a := n) (k := 1920) (by omega) (h n List.mem_cons_self)
    have a2 := piled_ints ns fun z hz => h z (List.mem_cons_of_mem _ hz)
    have a3 : ((toString n : Str)).length = (toString n).length := PySem.ofString_length _
    have e : PyData.shown (.int n) = (toString n : Str) := by simp only [PyData.shown]
    rw [List.map_cons, PyData.shownAll, piled_cons, List.length_cons, e]
    omega
theorem show_dI {ns : List Int} (h : ∀ n ∈ ns, n.natAbs.log2 < 1920) (hl : ns.length ≤ 100) : (dI ns).showable = true ∧ (dI ns).hasDict = false ∧ (dI ns).depth ≤ 60 ∧ (dI ns).shown.length ≤ sizeLine := by
  refine ⟨?_, ?_, by rw [deep_dI]; decide, ?_⟩
  · unfold dI
    rw [PyData.showable]
    exact shown_ints ns h
  · unfold dI
    rw [PyData.hasDict]
    exact noDict_ints ns
  · unfold dI
    rw [PyData.shown]
    have := fmt_text (PyData.shownAll (ns.map PyData.int))
    have := piled_ints ns h
    have : ns.length * 1923 ≤ 100 * 1923 := Nat.mul_le_mul_right _ hl
    rw [sizeLine_eq]
    omega
theorem log_lt {n : Int} (h : n.natAbs < 2 ^ 1900) : n.natAbs.log2 < 1920 := by
  by_cases z : n.natAbs = 0
  · rw [z]
    decide
  · have := (Nat.log2_lt z).mpr h
    omega
end CK

set_option Elab.async false
set_option linter.all false
set_option maxRecDepth 100000
set_option maxHeartbeats 2000000
/-! statements in order, tests that may end the call -/
namespace CK
open PySem PySem.Spec PyProof.Rows L2
theorem seq_cut {t u : TS} {D : Ends} {σ : L2.St} {H : Hp} (Mid : L2.St → Hp → Prop) (h1 : ∀ K : L2.St → Hp → Prop, (∀ σ' H', Mid σ' H' → K σ' H') → t { D with nx := K } σ H) (h2 : ∀ σ' H', Mid σ' H' → u D σ' H') : tSeq t u D σ H := h1 _ h2
/-- a test whose answer is b: what is within, and what follows -/
theorem if_dec {c : TT} {t u : TS} {D : Ends} {σ : L2.St} {H : Hp} (b : Bool) (h : ∀ R : Bool → Hp → Prop, (∀ H', Same H H' → R b H') → c σ H R)
    (yes : b = true → ∀ H', Same H H' → t { D with nx := fun σ' H'' => u D σ' H'' } σ H') (no : b = false → ∀ H', Same H H' → u D σ H') : tSeq (tIfS c t tNext) u D σ H :=
  h _ fun H' s => by
    cases b with
    | true => exact iteT (yes rfl H' s)
    | false => exact iteF (no rfl H' s)
/-- the last test of a block -/
theorem if_end {c : TT} {t u : TS} {D : Ends} {σ : L2.St} {H : Hp} (b : Bool) (h : ∀ R : Bool → Hp → Prop, (∀ H', Same H H' → R b H') → c σ H R)
    (yes : b = true → ∀ H', Same H H' → t D σ H') (no : b = false → ∀ H', Same H H' → u D σ H') : tIfS c t u D σ H :=
  h _ fun H' s => by
    cases b with
    | true => exact iteT (yes rfl H' s)
    | false => exact iteF (no rfl H' s)
theorem if_not {c : TT} {t u : TS} {D : Ends} {σ : L2.St} {H : Hp} (h : ∀ R : Bool → Hp → Prop, (∀ H', Same H H' → R false H') → c σ H R) (r : ∀ H', Same H H' → u D σ H') : tSeq (tIfS c t tNext) u D σ H :=
  h _ fun H' s => iteF (r H' s)
theorem yes_if {σ : L2.St} {H : Hp} {A B : Hp → Prop} (h : A H) : tYes σ H fun b H3 => if b = true then A H3 else B H3 := by
  show (if true = true then A H else B H)
  exact if_pos rfl ▸ h
end CK

set_option Elab.async false
set_option linter.all false
set_option maxRecDepth 100000
set_option maxHeartbeats 2000000
/-! sum of a tuple of numbers -/
namespace CK
open PySem PySem.Spec PyProof.Rows L2 SX
section
variable {prog : Program} {w : World} {A : Around} {E : Value → Shared → Prop} {s : Shared} {l : Addr} {xs : Array (Int × Tok)}
theorem sum_tupG {Q : Value → Shared → Prop} (hh : A.handled = none) (hl : s.heap.IsTuple l (intItems xs))
    (h : ∀ h' tk t', (∀ b o, s.heap.get? b = some o → h'.get? b = some o) → Q (.int (preSum (numAt xs) xs.size) t') { s with heap := h', toks := tk }) :
    wpAny (model prog w) A (call (.builtin "sum") [.ref l]) Q E s := by
  have hlt : l < s.heap.objs.size := by obtain ⟨_, e, _⟩ := hl; exact Heap.lt_size e
  refine call_sum_walkG (wpAny_pyIter_tuple hl ?_)
  refine ⟨_, _, _, _, _, _, numAt xs, rfl, Walks.tuple (A := A.in1) hh _ l (Nat.ne_of_lt hlt) (intItems xs), ⟨⟨_, Heap.get?_push_size _ rfl, rfl, rfl⟩, hl.push _⟩, fun b hb => ?_, (fun _ _ => intItems_at), fun h' tk t' hk => ?_⟩
  · show b < (s.heap.push _).objs.size
    rw [Heap.size_push]
    rcases List.mem_cons.mp hb with rfl | hb
    · exact Nat.lt_succ_self _
    · rcases List.mem_cons.mp hb with rfl | hb
      · exact Nat.lt_succ_of_lt hlt
      · cases hb
  · have := h h' tk t' fun b o e => by
      refine hk b o (fun hm => ?_) (Heap.get?_push_of_some _ e)
      have := List.mem_singleton.mp hm
      have hb := Heap.lt_size e
      rw [this] at hb
      exact absurd hb (Nat.lt_irrefl _)
    simpa [intItems] using this
end
section
variable {X : Cx}
theorem cr_sumT (hc : X.calm = true) : CallR X (.builtin "sum") (fun vs H Q => ∃ (a : Addr) (ns : List Int), vs = [V.ref a] ∧ H a = some (.tup (ns.map V.int)) ∧ Q (.int ns.sum) H) := by
  intro pins s σ H vs us Q I r h
  obtain ⟨a, ns, rfl, ha, q⟩ := h
  obtain ⟨its, rv, hl, _⟩ := I.tuple (.inl (.inl ha))
  rw [Vals.ref1 r]
  have hi := rv.ints
  obtain ⟨xs, e⟩ := hi.allInts.items
  have hn : numsOf (intItems xs).toList = ns := by rw [← e]; exact hi.numsOf
  rw [nums_intItems] at hn
  have hl' : s.heap.IsTuple a (intItems xs) := by rw [← e]; exact hl
  refine sum_tupG (I.ok.hd hc) hl' fun h' tk t' hk => ?_
  have es : preSum (numAt xs) xs.size = ns.sum := by rw [preSum_eq, List.take_of_length_le (by simp), hn]
  rw [es]
  exact ⟨.int _, H, I.kept (t' := tk) hk, ⟨_, rfl⟩, q⟩
end
end CK

set_option Elab.async false
set_option linter.all false
set_option maxRecDepth 100000
set_option maxHeartbeats 2000000
/-! a tuple of one item, k times, k of at least -1 -/
namespace CK
open PySem PySem.Spec PyProof.Rows L2 SX
theorem mulM1 (l : Addr) (v : Value) (n : Nat) (dd : Option Addr) (sl : Array (Option Value)) (u : Tok) :
    Meets (Builtin.«tuple.__mul__» ⟨[.ref l, .int (-1) u], []⟩) (fun _ R s =>
      s.heap.get? l = some { cls := .type "tuple", dict := dd, data := .seq #[v] n, slots := sl } ∧
      R (.ok (.ret (Value.ref s.heap.objs.size))) { s with heap := s.heap.push { cls := Value.type "tuple", data := Data.seq #[] } }) := by
  refine Meets.of_wp fun prog w A R s h => ?_
  obtain ⟨hq, g, d, tk, o2⟩ := s
  obtain ⟨hl, h⟩ := h
  have f1 := AutoSeq1.idx_int
  wp_walk using wpAny_loadPart' hl
  exact ⟨_, rfl, h⟩
section
variable {X : Cx}
theorem op_repOneZ : OpR X (binaryOp .Mult) (fun x y H Q => ∃ (l : Addr) (k : Int) (v : V), x = .ref l ∧ y = .int k ∧ H l = some (.tup [v]) ∧ -1 ≤ k ∧ k ≤ 1000 ∧
    ∀ p H', Same H H' → H' p = some (.tup (List.replicate k.toNat v)) → Q (.ref p) H') := by
  intro pins s σ H x y xv yv Q I rx ry h
  obtain ⟨l, k, v, rfl, rfl, hl, h0, h1, q⟩ := h
  by_cases hk : k = -1
  · subst hk
    cases rx
    obtain ⟨t, rfl⟩ := ry
    obtain ⟨zs, r, ⟨⟨cl, dd, da, sl⟩, ho, hc, n, hd⟩, hs⟩ := I.tuple (.inl (.inl hl) : SqT X.K H l [v])
    simp only at hc hd
    subst hc hd
    cases r with
    | cons r1 r2 =>
    cases r2
    rename_i u
    refine wpAny_binaryOp_repeat_ref (T := "tuple") (U := "int") (by decide) ⟨_, ho, rfl⟩ (fun s' => typeIs_int s' (-1) t) mulFill F.fills_int_mul F.slot_int_rmul mulSeq F.slot_int_index.lookup
      (call_meets F.slot_int_rmul (typeIs_int s (-1) t) F.entry_int_rmul (F.args_int_rmul_2 _ _) (rmulNo (-1) t l _ n dd sl)
        ⟨ho, rfl, ⟨_, ho, rfl⟩, call_meets F.slot_tuple_mul ⟨_, ho, rfl⟩ F.entry_tuple_mul (F.args_tuple_mul_2 _ _) (mulM1 l _ n dd sl t) ⟨ho, ?_⟩⟩)
    have hn : H s.heap.objs.size = none := I.hok.fresh (Nat.le_refl _)
    refine ⟨.ref s.heap.objs.size, _, I.laid (t' := s.toks) (o := .tup []) (fun b ob q => Heap.get?_push_of_some _ q) (Nat.le_refl _) ?_, rfl, q _ _ (sameNew hn) upd_same⟩
    exact ⟨Nat.zero_le _, [], .nil, IsTup.new _ _⟩
  · exact op_repOne pins s σ H _ _ xv yv Q I rx ry ⟨l, k, v, rfl, rfl, hl, by omega, h1, q⟩
end
end CK

set_option Elab.async false
set_option linter.all false
set_option maxRecDepth 100000
set_option maxHeartbeats 2000000
/-! == of two objects of an own class, by its __eq__, which may say yes or no -/
namespace CK
open PySem PySem.Spec PyProof.Rows L2 SX
section
variable {X : Cx} {k j : Nat} {C : Addr} {sp : Sp}
def rEqO (C : Addr) (sp : Sp) : R2 := fun x y H Q => ∃ a b dx fs dy gs, x = .ref a ∧ y = .ref b ∧ H a = some (.ins C dx fs) ∧ H b = some (.ins C dy gs) ∧ sp [.ref a, .ref b] H (fun v H' => (∃ r, v = .bl r) ∧ Q v H') C8.E0
theorem op_eqO (c : C8.Met X.prog X.w X.K X.mg X.base k C "__eq__" sp []) (hr : Room j X.A) (hk : k ≤ j) : OpR X (compareOp .Eq) (rEqO C sp) := by
  intro pins s σ H x y v u Q I rx ry h
  obtain ⟨a, b, dx, fs, dy, gs, rfl, rfl, ha, hb', hsp⟩ := h
  obtain ⟨f, fd, ps, ds, hc, hm, F, bnd, d⟩ := c.ex
  cases d
  cases rx
  cases ry
  obtain ⟨mA, J, _⟩ := ins_get I.hok ha
  obtain ⟨mB, J', _⟩ := ins_get I.hok hb'
  obtain ⟨od, J, _⟩ := J.look
  obtain ⟨od', J', _⟩ := J'.look
  obtain ⟨m, hF⟩ := I.fr
  have hr' := hr.mono hk
  show wpAny (model X.prog X.w) X.A (richCompare .Eq (.ref a) (.ref b)) (EP X pins σ Q) X.xe s
  refine PySem.W.cmp_K (op := .Eq) (tb := .ref C) hr.units0 hF I.ok.mod.kin J J'.type (by simp [PySem.W.notFirst]) hm.at_ hm.fn ?_
  have hl := F.len _ _ _ _ hsp
  have r2 : Vals [V.ref a, V.ref b] [Value.ref a, Value.ref b] := .cons rfl (.cons rfl .nil)
  refine wpAny_call (codeAny_mono (F.run X.A X.stack s H ⟨[.ref a, .ref b], []⟩ [.ref a, .ref b] [.ref a, .ref b] _ C8.E0 hr' I.env0 (by
    have := bnd s [.ref a, .ref b] I.kIn (by simpa using hl)
    simpa using this) r2 hsp) fun r s' hq => ?_)
  cases r with
  | error e => exact C8.pass0 (E := C8.E0) pins σ H s e s' I hq
  | ok fl =>
    cases fl with
    | ret w =>
      obtain ⟨z, H', I', rz, ⟨r, ez⟩, q⟩ := I.after hq
      subst ez
      cases rz
      exact ⟨.bl r, H', I', rfl, q⟩
    | next => exact False.elim hq
    | brk => exact False.elim hq
    | cont => exact False.elim hq
end
end CK

set_option Elab.async false
set_option linter.all false
set_option maxRecDepth 100000
set_option maxHeartbeats 2000000
/-! == of an object of an own class and a list, by the object's __eq__ -/
namespace CK
open PySem PySem.Spec PyProof.Rows L2 SX
section
variable {X : Cx} {k j : Nat} {C : Addr} {sp : Sp}
def rEqOL (C : Addr) (sp : Sp) : R2 := fun x y H Q => ∃ a b dx fs xs, x = .ref a ∧ y = .ref b ∧ H a = some (.ins C dx fs) ∧ H b = some (.lst xs) ∧ sp [.ref a, .ref b] H (fun v H' => (∃ r, v = .bl r) ∧ Q v H') C8.E0
theorem notFirst_list (K : PySem.W.Frag) (C : Addr) : PySem.W.notFirst K C (.type "list") = true := by
  have : PySem.W.subIn K (.type "list") (.ref C) = some false := by rfl
  unfold PySem.W.notFirst
  rw [this]
  simp
theorem op_eqOL (c : C8.Met X.prog X.w X.K X.mg X.base k C "__eq__" sp []) (hr : Room j X.A) (hk : k ≤ j) : OpR X (compareOp .Eq) (rEqOL C sp) := by
  intro pins s σ H x y v u Q I rx ry h
  obtain ⟨a, b, dx, fs, xs, rfl, rfl, ha, hb', hsp⟩ := h
  obtain ⟨f, fd, ps, ds, hc, hm, F, bnd, d⟩ := c.ex
  cases d
  cases rx
  cases ry
  obtain ⟨mA, J, _⟩ := ins_get I.hok ha
  obtain ⟨od, J, _⟩ := J.look
  obtain ⟨its, rv, hT, _⟩ := I.list (.inl (.inl hb'))
  obtain ⟨m, hF⟩ := I.fr
  have hr' := hr.mono hk
  obtain ⟨ob, nb, eb, cb, _, _⟩ := hT
  have hty : PySem.W.Looks (model X.prog X.w) s.heap (typeOf (.ref b)) (.type "list") := (PySem.W.Looks.ld eb).andThen (by rw [cb]; exact .now)
  show wpAny (model X.prog X.w) X.A (richCompare .Eq (.ref a) (.ref b)) (EP X pins σ Q) X.xe s
  refine PySem.W.cmp_K (op := .Eq) (tb := .type "list") hr.units0 hF I.ok.mod.kin J hty (notFirst_list _ _) hm.at_ hm.fn ?_
  have hl := F.len _ _ _ _ hsp
  have r2 : Vals [V.ref a, V.ref b] [Value.ref a, Value.ref b] := .cons rfl (.cons rfl .nil)
  refine wpAny_call (codeAny_mono (F.run X.A X.stack s H ⟨[.ref a, .ref b], []⟩ [.ref a, .ref b] [.ref a, .ref b] _ C8.E0 hr' I.env0 (by
    have := bnd s [.ref a, .ref b] I.kIn (by simpa using hl)
    simpa using this) r2 hsp) fun r s' hq => ?_)
  cases r with
  | error e => exact C8.pass0 (E := C8.E0) pins σ H s e s' I hq
  | ok fl =>
    cases fl with
    | ret w =>
      obtain ⟨z, H', I', rz, ⟨r, ez⟩, q⟩ := I.after hq
      subst ez
      cases rz
      exact ⟨.bl r, H', I', rfl, q⟩
    | next => exact False.elim hq
    | brk => exact False.elim hq
    | cont => exact False.elim hq
/-- the class object is of the type type -/
def TyC (K : PySem.W.Frag) (C : Addr) : Prop := ∃ od cd sl, K.lookup C = some ⟨.type "type", od, .cls cd, sl⟩
theorem tyc_mk {K : PySem.W.Frag} {mg : Str → Option Value} {x : Str} {C : Addr} (_ : ClF K mg x C) {oc : Value} {od : Option Addr} {cd : ClassData} {sl : Array (Option Value)} (l : K.lookup C = some ⟨oc, od, .cls cd, sl⟩) (e : oc = .type "type") : TyC K C := by
  subst e
  exact ⟨_, _, _, l⟩
theorem with_tyc {K : PySem.W.Frag} {mg : Str → Option Value} {x : Str} {C : Addr} (_ : ClF K mg x C) {R : Prop} (d : TyC K C) (r : TyC K C → R) : R := r d
theorem kit_listC {K : PySem.W.Frag} {C : Addr} (t : TyC K C) : PySem.W.kitOne K (.type "list") (.ref C) = some false := by
  obtain ⟨od, cd, sl, l⟩ := t
  have s : PySem.W.subIn K (.type "list") (.ref C) = some false := by rfl
  have h1 : PySem.W.clsIn K C = some cd := by unfold PySem.W.clsIn; rw [l]
  have h2 : PySem.W.typeIn K (.ref C) = some (.type "type") := by
    show (K.lookup C).map _ = _
    rw [l]
    rfl
  have h3 : PySem.W.kitCls K (.type "list") (.ref C) = some false := by
    unfold PySem.W.kitCls
    dsimp only
    rw [h1, h2, s]
    rfl
  unfold PySem.W.kitOne
  rw [h3]
  rfl
/-- isinstance of an object of an own class, or of a list -/
theorem call_isCL (c : C8.InsC X.K C) (t : TyC X.K C) : CallR X (.builtin "isinstance") (fun xs H Q => (∃ a dx fs, xs = [.ref a, .ref C] ∧ H a = some (.ins C dx fs) ∧ Q (.bl true) H) ∨ ∃ a ys, xs = [.ref a, .ref C] ∧ H a = some (.lst ys) ∧ Q (.bl false) H) := by
  intro pins s σ H xs us Q I r h
  rcases h with h | ⟨a, ys, rfl, ha, q⟩
  · exact C8.call_isC c pins s σ H xs us Q I r h
  · exact call_isi pins s σ H _ us Q I r ⟨.ref a, .ref C, .type "list", .ref C, false, rfl, .own C, .base (.lst ha), kit_listC t, q⟩
end
end CK

set_option Elab.async false
set_option linter.all false
set_option maxRecDepth 100000
set_option maxHeartbeats 2000000
/-! defs, methods and classes with defaults, called with keywords alone or with fewer arguments -/
namespace CK
open PySem PySem.Spec PyProof.Rows L2
/-- a def with defaults as it stands -/
structure DefD (K : PySem.W.Frag) (mg : Str → Option Value) (x : Str) (st : Stmt) (dvs : List V) (kws : List (Str × V)) : Prop where
  ex : ∃ (f : Addr) (fd : FuncData), FunD K x x (C8.fnArgs st) (C8.fnBody st) (C8.fnScope st) dvs kws f fd ∧ mg x = some (.ref f)
/-- a method with defaults -/
structure MetD (K : PySem.W.Frag) (C : Addr) (m q : Str) (st : Stmt) (dvs : List V) (kws : List (Str × V)) : Prop where
  ex : ∃ (f : Addr) (fd : FuncData), FunD K m q (C8.fnArgs st) (C8.fnBody st) (C8.fnScope st) dvs kws f fd ∧ Meth K C m f
theorem fun_of {K : PySem.W.Frag} {x q : Str} {st : Stmt} {dvs : List V} {kws : List (Str × V)} {f : Addr} {fd : FuncData} (F : FunD K x q (C8.fnArgs st) (C8.fnBody st) (C8.fnScope st) dvs kws f fd) : C8.Fun K x q st f fd := by
  obtain ⟨oc, od, dV, kV, doc, pm, an, cdv, ct, osl, rfl, lk, hcd, _, _⟩ := F.ex
  exact ⟨oc, od, dV, kV, doc, pm, an, cdv, ct, osl, rfl, lk, hcd⟩
theorem defD_mk {K : PySem.W.Frag} {h : Heap} {mg : Str → Option Value} (x : Str) (st : Stmt) (dvs : List V) (kws : List (Str × V)) {f : Addr} {od an : Option Addr} {oc dV kV dc pm cd ct : Value} {sl : Array (Option Value)}
    (X : K.In h) (G : h.Ns mainGlobals mg) (a : PySem.W.nsIn K mainGlobals x = some (some (.ref f)))
    (l : K.lookup f = some ⟨oc, od, .func (PySem.W.fnOf x x (C8.fnArgs st) (C8.fnBody st) (C8.fnScope st) dV kV dc pm an cd ct), sl⟩)
    (c : PySem.W.codeIn K cd x = true) (k : PySem.W.keepIn K (.ref f) = true) (dd : DflV K dV dvs) (kk : KwdV K kV kws) : DefD K mg x st dvs kws :=
  ⟨f, _, ⟨⟨oc, od, dV, kV, dc, pm, an, cd, ct, sl, rfl, l, c, dd, kk⟩, k⟩, PySem.W.mg_of X G a⟩
theorem metD_mk {K : PySem.W.Frag} {mg : Str → Option Value} {x : Str} {C : Addr} (_ : ClF K mg x C) (m q : Str) (st : Stmt) (dvs : List V) (kws : List (Str × V)) {f : Addr} {od an : Option Addr} {oc dV kV dc pm cd ct : Value} {sl : Array (Option Value)}
    (a : PySem.W.findIn K (.ref C) m = some (some (.ref f))) (i : PySem.W.isFn K (.ref f) = true)
    (l : K.lookup f = some ⟨oc, od, .func (PySem.W.fnOf m q (C8.fnArgs st) (C8.fnBody st) (C8.fnScope st) dV kV dc pm an cd ct), sl⟩)
    (c : PySem.W.codeIn K cd q = true) (k : PySem.W.keepIn K (.ref f) = true) (dd : DflV K dV dvs) (kk : KwdV K kV kws) : MetD K C m q st dvs kws :=
  ⟨f, _, ⟨⟨oc, od, dV, kV, dc, pm, an, cd, ct, sl, rfl, l, c, dd, kk⟩, k⟩, ⟨a, i, k⟩⟩
theorem with_defD {K : PySem.W.Frag} {h : Heap} {mg : Str → Option Value} (_ : K.In h) (x : Str) (st : Stmt) (dvs : List V) (kws : List (Str × V)) {R : Prop} (d : DefD K mg x st dvs kws) (r : DefD K mg x st dvs kws → R) : R := r d
theorem with_metD {K : PySem.W.Frag} {mg : Str → Option Value} {x : Str} {C : Addr} (_ : ClF K mg x C) (m q : Str) (st : Stmt) (dvs : List V) (kws : List (Str × V)) {R : Prop} (d : MetD K C m q st dvs kws) (r : MetD K C m q st dvs kws → R) : R := r d
/-- keyword-only defaults, one by one -/
theorem kwd_nil {K : PySem.W.Frag} {kV : Value} : KwdV K kV [] := .inl rfl
theorem kwd_cons {K : PySem.W.Frag} {D : Addr} {x : Str} {v : V} {u : Value} {kws : List (Str × V)} (h : PySem.W.nsIn K D x = some (some u)) (r : RelV v u) (t : KwdV K (.ref D) kws) : KwdV K (.ref D) ((x, v) :: kws) := by
  refine .inr ⟨D, rfl, fun q hq => ?_⟩
  rcases List.mem_cons.mp hq with rfl | hq
  · exact ⟨u, h, r⟩
  · rcases t with rfl | ⟨D', e, t⟩
    · cases hq
    · cases e
      exact t q hq
theorem dfl_nil {K : PySem.W.Frag} : DflV K .none [] := .inl ⟨rfl, rfl⟩
theorem dfl_one {K : PySem.W.Frag} {T : Addr} {o : Obj} {v : V} {u : Value} {n : Nat} (l : K.lookup T = some o) (d : o.data = .seq #[u] n) (r : RelV v u) : DflV K (.ref T) [v] := .inr ⟨List.cons_ne_nil _ _, T, o, [u], n, rfl, l, d, .cons r .nil⟩
theorem FunD.kbindsN {K : PySem.W.Frag} {x qual : Str} {params : Arguments} {body : List Stmt} {scope : Scope} {f : Addr} {fd : FuncData} {ps : List Str} (F : FunD K x qual params body scope [] [] f fd) (n : Nat) (ks : List Str) (g : {α : Type} → List α → List α → List α)
    (hrel : ∀ {vs zs : List V} {us ws : List Value}, Vals vs us → Vals zs ws → Vals (g vs zs) (g us ws))
    (h : ∀ (kV doc pm : Value) (an : Option Addr) (cdv ct : Value) (us ws : List Value), us.length = n → ws.length = ks.length → bindArgs (PySem.W.fnOf x qual params body scope .none kV doc pm an cdv ct) ⟨us, ks.zip ws⟩ = pure (ps.zip (g us ws))) :
    KBn K fd ps n ks (fun us ws => g us ws) (fun vs zs => g vs zs) := by
  obtain ⟨oc, od, dV, kV, doc, pm, an, cdv, ct, osl, rfl, lk, hcd, hD, hK⟩ := F.ex
  rcases hD with ⟨_, rfl⟩ | ⟨e, _⟩
  · exact ⟨fun s us ws X l1 l2 => .of_eq (h kV doc pm an cdv ct us ws l1 l2), fun r1 r2 => hrel r1 r2⟩
  · exact absurd rfl e
/-! ### calls -/
structure CalN (P : Program) (w : World) (K : PySem.W.Frag) (mg : Str → Option Value) (base : Heap) (k : Nat) (x : Str) (ks : List Str) (sp : Sp) (gV : List V → List V → List V) : Prop where
  ex : ∃ (f : Addr) (fd : FuncData) (ps : List Str) (g : List Value → List Value → List Value), FnOk P w K mg base C8.CX0 k f fd ps sp ∧ mg x = some (.ref f) ∧ PySem.W.keepIn K (.ref f) = true ∧ KBn K fd ps 0 ks g gV
structure MakN (P : Program) (w : World) (K : PySem.W.Frag) (mg : Str → Option Value) (base : Heap) (k : Nat) (x : Str) (C : Addr) (ks : List Str) (sp : Sp) (gV : List V → List V → List V) : Prop where
  ex : ∃ (f : Addr) (fd : FuncData) (ps : List Str) (g : List Value → List Value → List Value), Mk K C f ∧ FnOk P w K mg base C8.CX0 k f fd ps sp ∧ mg x = some (.ref C) ∧ KBn K fd ps 1 ks g gV
structure MetN (P : Program) (w : World) (K : PySem.W.Frag) (mg : Str → Option Value) (base : Heap) (k : Nat) (C : Addr) (m : Str) (ks : List Str) (sp : Sp) (gV : List V → List V → List V) : Prop where
  ex : ∃ (f : Addr) (fd : FuncData) (ps : List Str) (g : List Value → List Value → List Value), Cls K C ∧ Meth K C m f ∧ FnOk P w K mg base C8.CX0 k f fd ps sp ∧ KBn K fd ps 1 ks g gV
def tMethN (C : Addr) (m : Str) (n : Nat) (sp : Sp) (gV : List V → List V → List V) (E : XK) (ta : TE) (tk : TA) : TE := fun σ H Q => ta σ H fun x H1 => ∃ a dx fs, x = .ref a ∧ H1 a = some (.ins C dx fs) ∧ fs.lookup m = none ∧
  tk σ H1 fun zs H2 => zs.length = n ∧ sp (gV [.ref a] zs) H2 Q E
section
variable {X : Cx} {k j : Nat} {C : Addr} {x m : Str} {sp : Sp} {dvs : List V} {p pos apos : Pos} {o : Expr} {kws : List Keyword} {ks : List Str} {ta : TE} {tk : TA} {gV : List V → List V → List V}
theorem pe_cN (c : CalN X.prog X.w X.K X.mg X.base k x ks sp gV) (hr : Room j X.A) (hk : k ≤ j) (hg : Gl X x) (hkw : PK X kws tk)
    (hall : (backToKw pos (keywordEach kws X.env)).all (·.1.isSome) = true := by rfl) (hks : (backToKw pos (keywordEach kws X.env)).filterMap (·.1) = ks := by rfl) (hdb : (x == ("__debug__" : Str)) = false := by decide)
    (hpl : ((backTo pos (starEach [] X.env)).any (·.1) || (backToKw pos (keywordEach kws X.env)).any (·.1.isNone)) = false := by rfl) :
    PE X (.Call (.Name x p) [] kws pos) (tCallN 0 ks.length sp gV C8.E0 tNil tk) := by
  obtain ⟨f, fd, ps, g, F, hm, kp, hb⟩ := c.ex
  refine ⟨fun pins s σ H Q I h => ?_⟩
  refine wpAny_Call_Name_kw (ld_glob I hg hm ?_ hdb)
  refine PySem.W.callWith_KW0 (h₀ := X.base) I.ok.mod.kin kp hall ?_ hpl
  refine thn (hkw.run pos pins s σ H _ I h) fun ws s2 ⟨zs, H2, I2, rz, l1, l2, q2⟩ => ⟨I2.kIn, ?_⟩
  rw [hks]
  exact run_fnN (us := []) (vs := []) F (hr.mono hk) hb C8.pass0 I2 .nil rz rfl l2 q2
theorem pe_mkN (c : MakN X.prog X.w X.K X.mg X.base k x C ks sp gV) (hr : Room j X.A) (hk : k + 1 ≤ j) (hg : Gl X x) (hkw : PK X kws tk)
    (hall : (backToKw pos (keywordEach kws X.env)).all (·.1.isSome) = true := by rfl) (hks : (backToKw pos (keywordEach kws X.env)).filterMap (·.1) = ks := by rfl) (hdb : (x == ("__debug__" : Str)) = false := by decide)
    (hpl : ((backTo pos (starEach [] X.env)).any (·.1) || (backToKw pos (keywordEach kws X.env)).any (·.1.isNone)) = false := by rfl) :
    PE X (.Call (.Name x p) [] kws pos) (tMakeK C 0 ks.length sp gV C8.E0 tNil tk) := by
  obtain ⟨f, fd, ps, g, M, F, hm, hb⟩ := c.ex
  exact pe_makeK0 M F (hr.mono hk) hg hm hb C8.pass0 hkw hall hks hdb hpl
theorem pe_mk0 (c : C8.Mak X.prog X.w X.K X.mg X.base k x C sp dvs) (hr : Room j X.A) (hk : k + 1 ≤ j) (hg : Gl X x)
    (hdb : (x == ("__debug__" : Str)) = false := by decide) : PE X (.Call (.Name x p) [] [] pos) (tMake C sp dvs C8.E0 tNil) := by
  obtain ⟨f, fd, ps, ds, M, F, hm, b, d⟩ := c.ex
  exact pe_make0 M F (hr.mono hk) hg hm b d C8.pass0 hdb
theorem pe_mtN {pl : Sem Bool} (c : MetN X.prog X.w X.K X.mg X.base k C m ks sp gV) (hr : Room j X.A) (hk : k ≤ j) (he : PE X o ta) (hkw : PK X kws tk)
    (hall : (backToKw pos (keywordEach kws X.env)).all (·.1.isSome) = true := by rfl) (hks : (backToKw pos (keywordEach kws X.env)).filterMap (·.1) = ks := by rfl)
    (hpl : ((backTo pos (starEach [] X.env)).any (·.1) || (backToKw pos (keywordEach kws X.env)).any (·.1.isNone)) = false := by rfl)
    (ht : eval (.Call (.Attribute o m apos) [] kws pos) X.env = (do
      let ov ← eval o X.env
      standAt apos.atName
      let (f, first) ← holding [ov] (getMethod ov m pl)
      callWith pos f first (backTo pos (starEach [] X.env)) (backToKw pos (keywordEach kws X.env))) := by rfl) :
    PE X (.Call (.Attribute o m apos) [] kws pos) (tMethN C m ks.length sp gV C8.E0 ta tk) := by
  obtain ⟨f, fd, ps, g, hc, hm, F, hb⟩ := c.ex
  refine ⟨fun pins s σ H Q I h => ?_⟩
  refine PySem.W.methodCall_KW (pl := pl) (thn (he.run pins s σ H _ I h) fun u s1 ⟨x, H1, I1, rx, a, dx, fs, ex, ea, l, q⟩ => ?_) ht
  subst ex
  obtain rfl : u = Value.ref a := rx
  refine getmeth_ok I1 ea hc hm l ?_
  refine PySem.W.callWith_KW0 (first := [.ref a]) (h₀ := X.base) I.ok.mod.kin hm.kp hall ?_ hpl
  refine thn (hkw.run pos pins s1 σ H1 _ I1 q) fun ws s2 ⟨zs, H2, I2, rz, l2, q2⟩ => ⟨I2.kIn, ?_⟩
  rw [hks]
  exact run_fnN (us := [.ref a]) (vs := [.ref a]) F (hr.mono hk) hb C8.pass0 I2 (.cons rfl .nil) rz rfl l2 q2
end
end CK

set_option Elab.async false
set_option linter.all false
set_option maxRecDepth 100000
set_option maxHeartbeats 4000000
/-! exceptions: kept behind the suite that catches them; defs that raise; errors with one field -/
namespace CK
open PySem PySem.Spec PyProof.Rows L2
/-- a caught exception that is still held -/
def ExV (a : Addr) (cls : Value) (d : Option Addr) : HO := .ext fun g => ∃ ob fv, g.get? a = some ob ∧ Zc cls d ob ∧ ob.data = .fields fv
section
variable {X : Cx} {pins : List (Addr × Obj)} {σ : L2.St} {H : Hp} {g : Heap} {a : Addr} {cls : Value} {d : Option Addr} {ob : Obj} {fv : Array Value} {B : Heap} {y z : Shared}
theorem exV_ok {P : Program} {w : World} (h1 : g.get? a = some ob) (h2 : Zc cls d ob) (h3 : ob.data = .fields fv) : ObjOk P w H g a (ExV a cls d) :=
  ⟨⟨ob, fv, h1, h2, h3⟩, ⟨ob, h1⟩, fun _ _ ⟨o', v', y1, y2⟩ k => ⟨o', v', k _ y1, y2⟩⟩
theorem exV_at {P : Program} {w : World} (hok : HOk P w H g) (h : H a = some (ExV a cls d)) : ∃ ob fv, g.get? a = some ob ∧ Zc cls d ob ∧ ob.data = .fields fv := by
  have := hok a _ h
  exact this.1
/-- the exception's object is tracked from now on -/
theorem held_now (I : Inv X pins σ H y) (gr : ∀ b o, y.heap.get? b = some o → b ∉ frs X.stack → B.get? b = some o) (up : y.heap.UpToSlots z.heap) (st : B.StaysIn z.heap) (nB : B.get? a = none) (na : H a = none) (nf : a ∉ frs X.stack)
    (h1 : z.heap.get? a = some ob) (h2 : Zc cls d ob) (h3 : ob.data = .fields fv) (os : z.os = y.os) (ag : AllBare z.gens) : Inv X pins σ (upd H a (ExV a cls d)) z := by
  have old : ∀ {b o}, y.heap.get? b = some o → b ≠ a := fun {b o} e q => by
    subst q
    rw [gr b o e nf] at nB
    cases nB
  have fr : ∀ b ∈ frs X.stack, ∀ o, y.heap.get? b = some o → ∃ sl, z.heap.get? b = some { o with slots := sl } := fun b hb o e => by
    obtain ⟨_, o2, e2, hnf⟩ := I.stack.mem hb
    obtain rfl : o2 = o := Option.some.inj (e2.symm.trans e)
    exact up b o2 e2 hnf
  refine I.call' (ch := []) os ⟨?_, ?_, ?_, ?_, ?_, ?_, ?_⟩ ?_ ag (fun _ q => nomatch q)
  · exact fun b o e _ hb _ => st b o (gr b o e hb)
  · exact fun b o e _ hb _ => fr b hb o e
  · exact fun b o e n _ => (upd_ne (old e)).trans n
  · intro b o e _
    by_cases hb : b ∈ frs X.stack
    · exact ⟨_, (fr b hb o e).choose_spec⟩
    · exact ⟨o, st b o (gr b o e hb)⟩
  · exact fun b xs e => (upd_ne (ne_of_none e na)).trans e
  · exact fun b o u e => (upd_ne (ne_of_none e na)).trans e
  · exact fun b ps e => ⟨#[], by rw [upd_ne (ne_of_none e na), e, Array.append_empty]⟩
  · intro b o e
    by_cases hb : b = a
    · subst hb
      obtain rfl : ExV b cls d = o := Option.some.inj (upd_same.symm.trans e)
      exact exV_ok h1 h2 h3
    · have e' : H b = some o := (upd_ne hb).symm.trans e
      exact (I.inGround gr b o e').stay (fun c v _ q => st c v q) (fun c q => (upd_ne (ne_of_none q na)).trans q) (fun c xs q => (upd_ne (ne_of_none q na)).trans q)
/-- into the suite, and back -/
theorem to_suite {a : Addr} (I : Inv X pins σ H z) : Inv (X.suite a (X.pn ++ pins)) [] σ H z :=
  ⟨I.ok.suite a _, I.os, I.bare, I.base, I.loc, I.cell, I.free, I.freeC, fun p hp => I.pin p (by simpa using hp), I.hok, I.len⟩
theorem of_suite {a : Addr} {more : List (Addr × Obj)} (I : Inv (X.suite a (X.pn ++ pins)) more σ H z) (ok : X.Ok) : Inv X pins σ H z :=
  ⟨ok, I.os, I.bare, I.base, I.loc, I.cell, I.free, I.freeC, fun p hp => I.pin p (List.mem_append.mpr (.inl hp)), I.hok, I.len⟩
end
/-- what 'except x as n: suite' wishes where x is met: n in slot i; the exception is held from there on -/
def wKeep (K : PySem.W.Frag) (c : Value) (i : Nat) (ts : Addr → TS) (D : Ends) : WX := fun cls d σ H =>
  PySem.W.exmOne K cls c = some true ∧ ∀ a, H a = none → ts a { nx := fun σ' H' => D.nx (σ'.set i none) H', rt := D.rt, bk := fun σ' H' => D.bk (σ'.set i none) H', ct := fun σ' H' => D.ct (σ'.set i none) H' } (σ.set i (some (.ref a))) (upd H a (ExV a cls d))
section
variable {X : Cx} {x n : Str} {c : Value} {i : Nat} {body suite : List Stmt} {b₀ : Stmt} {np pos pos' : Pos} {tb : WX → TS} {ts : Addr → TS}
theorem ps_try_keep (hs : X.stack = X.env :: X.outer) (hf : X.env.frame = some X.env.locals) (hN : X.N.Nodup) (hi : X.N[i]? = some n) (hln : X.env.kindOf n = some .local) (hg : Gl X x) (hdb : (x == ("__debug__" : Str)) = false) (hm : X.mg x = some c)
    (hb : ∀ (W : WX) (pn : List (Addr × Obj)) (xe : Value → Shared → Prop), Takes (X.tr pn xe) W → PSs (X.tr pn xe) body (tb W)) (hsu : ∀ (a : Addr) (pn : List (Addr × Obj)), PSs (X.suite a pn) (b₀ :: suite) (ts a)) :
    PS X (.Try body [.ExceptHandler (some (.Name x np)) (some n) (b₀ :: suite) pos'] [] [] pos) (fun D σ H => tb (wKeep X.K c i ts D) D σ H) := by
  constructor
  intro pins z σ H D I h
  have hfr : X.A.frames = some (X.env :: X.outer) := I.ok.frames.trans (congrArg some hs)
  refine wpAny_Try_except (wpAny_mono ((hb (wKeep X.K c i ts D) (X.pn ++ pins) _ ?_).run [] z σ H D (I.toTry _) h) ?_ (fun _ _ q => q))
  · rintro _ z1 ⟨a, B, y, pins', σ1, H1, cls, d, rfl, J', gr, up, sky, na, os, ag, hx, hyes⟩
    have J : Inv X pins σ1 H1 y := J'.ofTry I.ok
    have sky1 : Sky B (X.env :: X.outer) a (Zc cls d) X.env.locals z1.heap := hs ▸ sky
    refine Sky.land Zc.steady hfr hf sky1 fun g3 fl3 up3 => ?_
    have nf : ∀ {g : Heap}, HandSPX.FlyingZ B (X.env :: X.outer) a (Zc cls d) g → a ∉ frs X.stack := fun {g} fl hm => by
      obtain ⟨ob, fv, h1, _, h3⟩ := fl.there
      rw [hs] at hm
      obtain ⟨_, o2, e2, hn⟩ := fl.2.2.1.mem hm
      obtain rfl : ob = o2 := Option.some.inj (h1.symm.trans e2)
      exact hn fv h3
    obtain ⟨ob3, fv3, a1, a2, a3⟩ := fl3.there
    have V3 := to_suite (a := a) (held_now (z := { z1 with heap := g3 }) J gr (up.trans up3) fl3.1 fl3.2.1 na (nf fl3) a1 a2 a3 os ag)
    refine wpAny_handleBy_cons (codeAny_handlers_test (ld_glob V3 hg hm ?_ hdb)) (fun q => nomatch q)
    have isc : PySem.W.Looks (model X.prog X.w) g3 (typeOf (.ref a)) cls := fun _ _ _ _ k q => wpAny_typeOf_ref (k _ _ a1) (a2.1.symm ▸ q)
    refine (PySem.W.exm_one V3.kIn isc hx).here (codeAny_handlers_suite_as (HandSPX.lands_againZ fl3 fun g4 fl4 up4 => ?_))
    obtain ⟨ob4, fv4, b1, b2, b3⟩ := fl4.there
    have V4 := to_suite (a := a) (held_now (z := { z1 with heap := g4 }) J gr ((up.trans up3).trans up4) fl4.1 fl4.2.1 na (nf fl4) b1 b2 b3 os ag)
    refine store_ok (X := X.suite a (X.pn ++ pins)) V4 hN hi (.inl hln) (v := .ref a) rfl (fun z5 V5 => ?_) (.inr hln)
    refine wpAny_mono ((hsu a (X.pn ++ pins)).run [] z5 _ _ _ V5 (hyes a na)) ?_ (fun _ _ q => q.elim)
    rintro f z6 got
    cases f with
    | next => exact gone_ok (of_suite got.choose_spec.choose_spec.1 I.ok) hN hi hln fun z7 V7 => ⟨_, _, V7, got.choose_spec.choose_spec.2⟩
    | brk => exact gone_ok (of_suite got.choose_spec.choose_spec.1 I.ok) hN hi hln fun z7 V7 => ⟨_, _, V7, got.choose_spec.choose_spec.2⟩
    | cont => exact gone_ok (of_suite got.choose_spec.choose_spec.1 I.ok) hN hi hln fun z7 V7 => ⟨_, _, V7, got.choose_spec.choose_spec.2⟩
    | ret u =>
      obtain ⟨v, σ6, H6, V6, r6, q6⟩ := got
      exact gone_ok (of_suite V6 I.ok) hN hi hln fun z7 V7 => ⟨v, _, _, V7, r6, q6⟩
  · rintro f z1 got
    cases f with
    | next => exact wpAny_execs_nil ⟨_, _, got.choose_spec.choose_spec.1.ofTry I.ok, got.choose_spec.choose_spec.2⟩
    | brk => exact ⟨_, _, got.choose_spec.choose_spec.1.ofTry I.ok, got.choose_spec.choose_spec.2⟩
    | cont => exact ⟨_, _, got.choose_spec.choose_spec.1.ofTry I.ok, got.choose_spec.choose_spec.2⟩
    | ret u =>
      obtain ⟨v, σ6, H6, V6, r6, q6⟩ := got
      exact ⟨v, _, _, V6.ofTry I.ok, r6, q6⟩
end
/-! ### defs that may raise -/
section
variable {P : Program} {w : World} {K : PySem.W.Frag} {mg : Str → Option Value} {base : Heap} {k : Nat} {x : Str} {st : Stmt} {sp : Sp}
/-- where nothing is let out, a def that may raise is one that doesn't -/
theorem calm_of {f : Addr} {fd : FuncData} {ps : List Str} (F : FnOk P w K mg base (L2.CX P w) k f fd ps sp) : FnOk P w K mg base C8.CX0 k f fd ps (fun vs H Q _ => sp vs H Q E0) := by
  refine ⟨fun vs H Q _ h => F.len vs H Q E0 h, fun A outer z H args us vs Q E hr e0 hb r h => codeAny_mono (F.run A outer z H args us vs Q E0 hr e0 hb r h) fun res z' got => ?_⟩
  cases res with
  | ok f => cases f <;> exact got
  | error e =>
    obtain ⟨_, _, _, _, _, _, _, _, _, _, _, _, q⟩ := got
    exact q.elim
/-- a def that may raise, by its name -/
structure CalX (P : Program) (w : World) (K : PySem.W.Frag) (mg : Str → Option Value) (base : Heap) (k : Nat) (x : Str) (sp : Sp) : Prop where
  ex : ∃ (f : Addr) (fd : FuncData) (ps : List Str), FnOk P w K mg base (L2.CX P w) k f fd ps sp ∧ mg x = some (.ref f) ∧ PySem.W.keepIn K (.ref f) = true ∧ Binds K fd ps []
theorem CalX.cal (c : CalX P w K mg base k x sp) : C8.Cal P w K mg base k x (fun vs H Q _ => sp vs H Q E0) [] := by
  obtain ⟨f, fd, ps, F, m, kp, b⟩ := c.ex
  exact ⟨f, fd, ps, [], calm_of F, m, kp, b, .nil⟩
theorem fnX_of {q : Str} {f : Addr} {fd : FuncData} {N ps : List Str} (F : C8.Fun K x q st f fd) (S : FnScope N ps (C8.fnScope st)) (len : ∀ vs H Q E, sp vs H Q E → vs.length = ps.length)
    (body : ∀ (cdv : Value) (A : Around) (outer : List Env) (z : Shared) (H : Hp) (vs : List V) (Q : VK) (E : XK), Room k (A.deeper (envOfC q (C8.fnScope st) z.heap.objs.size f cdv)) → sp vs H Q E →
      ∃ t, PSs (cxOf (L2.CX P w) P w K mg base N q (C8.fnScope st) f cdv A outer z H E) (C8.fnBody st) t ∧ t { nx := fun _ H' => Q .non H', rt := Q } (start N vs) H) : FnOk P w K mg base (L2.CX P w) (k + 1) f fd ps sp := by
  obtain ⟨_, _, _, _, _, _, _, cdv, _, _, rfl, lk, hc⟩ := F.ex
  exact fn_of lk hc S len fun A outer z H vs Q E hr h => body cdv A outer z H vs Q E hr h
theorem calX {N ps : List Str} (D : DefF K mg x st ps) (S : FnScope N ps (C8.fnScope st)) (len : ∀ vs H Q E, sp vs H Q E → vs.length = ps.length)
    (body : ∀ (f : Addr) (cdv : Value) (A : Around) (outer : List Env) (z : Shared) (H : Hp) (vs : List V) (Q : VK) (E : XK), Room k (A.deeper (envOfC x (C8.fnScope st) z.heap.objs.size f cdv)) → sp vs H Q E →
      ∃ t, PSs (cxOf (L2.CX P w) P w K mg base N x (C8.fnScope st) f cdv A outer z H E) (C8.fnBody st) t ∧ t { nx := fun _ H' => Q .non H', rt := Q } (start N vs) H) : CalX P w K mg base (k + 1) x sp := by
  obtain ⟨f, fd, F, b⟩ := D.ex
  exact ⟨f, fd, ps, fnX_of F.fn S len (body f), F.mgf, F.kp, .all b⟩
end
section
variable {X : Cx} {k j : Nat} {x : Str} {sp : Sp} {p pos : Pos} {e : Expr} {es : List Expr} {t : TA} {W : WX}
theorem pe_x (c : CalX X.prog X.w X.K X.mg X.base k x sp) (tk : Takes X W) (hr : Room j X.A) (hk : k ≤ j) (hg : Gl X x) (ha : PA X (e :: es) t)
    (hdb : (x == ("__debug__" : Str)) = false := by decide) (he : starEach (e :: es) X.env = (false, eval e X.env) :: starEach es X.env := by rfl) (hpl : (backTo pos (starEach es X.env)).any (·.1) = false := by rfl) :
    PE X (.Call (.Name x p) (e :: es) [] pos) (tCallS sp (WE W) t) := by
  obtain ⟨f, fd, ps, F, m, kp, b⟩ := c.ex
  exact pe_callS F (hr.mono hk) hg m kp b (fun σ => passAt tk σ) ha hdb he hpl
end
/-! ### an error with one field -/
/-- __init__(self, value=..): self.value = value -/
structure ErrF (K : PySem.W.Frag) (mg : Str → Option Value) (x fl : Str) (C : Addr) : Prop where
  gC : mg x = some (.ref C)
  ox : OexC K C
  xf : XfC K C
  xc : ExcC K C
  no : PySem.W.findIn K (.ref C) fl = some none
  cl : (PySem.W.clsIn K C).isSome = true
  rf : PySem.W.subIn K (.ref C) (.ref C) = some true
  fn : ∃ (st : Stmt) (q : Str) (f : Addr) (fd : FuncData), C8.Fun K "__init__" q st f fd ∧ PySem.W.findIn K (.ref C) "__init__" = some (some (.ref f)) ∧ PySem.W.typeIn K (.ref f) = some (.type "function") ∧ Binds K fd ["self", fl] [] ∧
    FnScope ["self", fl] ["self", fl] (C8.fnScope st) ∧ (C8.fnScope st).names.lookup ("self" : Str) = some .local ∧ (C8.fnScope st).names.lookup fl = some .local ∧ (fl == ("__debug__" : Str)) = false ∧ (fl == ("__classdict__" : Str)) = false ∧
    ∃ q1 q2 q3 q4, C8.fnBody st = [.Assign [.Attribute (.Name "self" q1) fl q2] (.Name fl q3) q4]
def sp_err (C : Addr) (fl : Str) : Sp := fun vs H Q _ => ∃ a v, vs = [.ref a, v] ∧ H a = some (exo a C none) ∧ ∀ dx, H dx = none → dx ≠ a → Q .non (upd (upd H dx (exd dx [(fl, v)])) a (exo a C (some dx)))
section
variable {P : Program} {w : World} {K : PySem.W.Frag} {mg : Str → Option Value} {base : Heap} {x fl : Str} {C : Addr}
theorem ErrF.init (T : ErrF K mg x fl C) : ∃ (f : Addr) (fd : FuncData), FnOk P w K mg base (L2.CX P w) 1 f fd ["self", fl] (sp_err C fl) ∧ PySem.W.findIn K (.ref C) "__init__" = some (some (.ref f)) ∧ PySem.W.typeIn K (.ref f) = some (.type "function") ∧ Binds K fd ["self", fl] [] := by
  obtain ⟨st, qn, f, fd, F, iC, tI, bd, S, l1, l2, n1, n2, q1, q2, q3, q4, eb⟩ := T.fn
  refine ⟨f, fd, fnX_of F S (fun vs H Q E h => ?_) (fun cdv A outer z H vs Q E hr h => ?_), iC, tI, bd⟩
  · obtain ⟨a, v, rfl, _⟩ := h
    rfl
  · obtain ⟨a, v, rfl, ea, q⟩ := h
    have k1 : (envOfC qn (C8.fnScope st) z.heap.objs.size f cdv).kindOf "self" = some .local := l1
    have k2 : (envOfC qn (C8.fnScope st) z.heap.objs.size f cdv).kindOf fl = some .local := l2
    refine ⟨_, by rw [eb]; exact pss_one (ps_ost (pe_var (i := 0) rfl (.inl k1) (by decide) (by decide)) (pe_var (i := 1) rfl (.inl k2) n1 n2)), ?_⟩
    exact ⟨_, rfl, _, rfl, a, C, rfl, T.ox, T.no, .inl ⟨ea, fun dx n ne => q dx n ne⟩⟩
end
section
variable {X : Cx} {x fl : Str} {C : Addr} {j : Nat} {W : WX} {e : Expr} {te : TE} {p pos pos' : Pos}
theorem pe_mono {X : Cx} {e : Expr} {te : TE} (he : PE X e te) : PE X e (fun σ H Q' => ∃ Q : VK, te σ H Q ∧ ∀ v H1, Q v H1 → Q' v H1) :=
  ⟨fun pins z σ H Q' I ⟨Q, h, m⟩ => thn (he.run pins z σ H Q I h) fun u z1 ⟨v, H1, I1, r, q⟩ => ⟨v, H1, I1, r, m v H1 q⟩⟩
/-- raise x(e) -/
theorem ps_raiseE (T : ErrF X.K X.mg x fl C) (hc : X.calm = true) (tk : Takes X W) (hr : Room j X.A) (h2 : 2 ≤ j) (hg : Gl X x) (he : PE X e te) (hdb : (x == ("__debug__" : Str)) = false := by decide)
    (hse : starEach [e] X.env = (false, eval e X.env) :: starEach [] X.env := by rfl) (hpl : (backTo pos (starEach [] X.env)).any (·.1) = false := by rfl) :
    PS X (.Raise (some (.Call (.Name x p) [e] [] pos)) none pos') (fun _ σ H => te σ H fun v H1 => ∀ d, H1 d = none → W (.ref C) (some d) σ (upd H1 d (.xd [(fl, v)]))) := by
  obtain ⟨f, fd, F, iC, tI, bd⟩ := T.init (P := X.prog) (w := X.w) (base := X.base)
  refine ps_raise hc tk (t := fun σ H Q => te σ H fun v H1 => ∀ d, H1 d = none → Q (.ref C) (some d) (upd H1 d (.xd [(fl, v)]))) (fun pins z σ H Q I h => ?_)
  refine pmk_oex (dvs := []) T.ox iC tI F (hr.mono h2) bd .nil passL hg T.gC (pa_cons (hs := hse) (pe_mono he) pa_nil) hdb hse hpl pins z σ H Q I ⟨_, h, fun v H1 q => ⟨(by show 1 ≤ 1000; decide), fun a na => ⟨a, v, rfl, upd_same, fun dx n ne => ?_⟩⟩⟩
  have nd : H1 dx = none := (upd_ne ne).symm.trans n
  refine ⟨rfl, dx, _, upd_same, (upd_ne ne).trans upd_same, nd, ?_⟩
  have e : upd (del (upd (upd (upd H1 a (exo a C none)) dx (exd dx [(fl, v)])) a (exo a C (some dx))) a) dx (.xd [(fl, v)]) = upd H1 dx (.xd [(fl, v)]) := by
    funext b
    by_cases h1 : b = dx
    · rw [h1, upd_same, upd_same]
    · rw [upd_ne h1, upd_ne h1]
      by_cases h2 : b = a
      · rw [h2, del_same, na]
      · rw [del_ne h2, upd_ne h2, upd_ne h1, upd_ne h2]
  rw [e]
  exact q dx nd
end
/-! ### what is caught, looked at -/
section
variable {X : Cx}
inductive TyE (K : PySem.W.Frag) (H : Hp) : V → Value → Prop where
  | dat {x : V} {t : Value} (h : TyX K H x t) : TyE K H x t
  | exc {a C d : Addr} {fs : List (Str × V)} (T : ExcC K C) (cl : (PySem.W.clsIn K C).isSome = true) (ea : H a = some (ExV a (.ref C) (some d))) (ed : H d = some (.xd fs)) : TyE K H (.ref a) (.ref C)
theorem inst_of {P : Program} {w : World} {H : Hp} {g : Heap} {a C d : Addr} {fs : List (Str × V)} (hok : HOk P w H g) (ea : H a = some (ExV a (.ref C) (some d))) (ed : H d = some (.xd fs)) :
    ∃ (ob od : Obj) (mA : Str → Option Value), PySem.W.InstAt g a ob C (some od) ∧ (∀ f, PySem.W.lookIn f od = some (mA f)) ∧ ∀ f, RelO (fs.lookup f) (mA f) := by
  obtain ⟨ob, fv, h1, h2, h3⟩ := exV_at hok ea
  have hx : ObjOk P w H g d (.xd fs) := hok d _ ed
  obtain ⟨mA, hns, hr⟩ := hx
  obtain ⟨od, ho, hl⟩ := lookIn_ns hns
  exact ⟨ob, od, mA, ⟨h1, h2.1, by unfold PySem.W.notCls; rw [h3] <;> rfl, by rw [h2.2]; exact ho⟩, hl, hr⟩
theorem kit_ofE {pins : List (Addr × Obj)} {σ : L2.St} {H : Hp} {z : Shared} {x : V} {u t : Value} (I : Inv X pins σ H z) (rx : RelV x u) (ty : TyE X.K H x t) : ∃ P : Heap → Prop, PySem.W.KitX X.K u t P ∧ P z.heap ∧ u ≠ .builtin "__main__.__loader__#opaque" := by
  cases ty with
  | dat h => exact kit_of I rx h
  | @exc a C d fs T cl ea ed =>
    obtain rfl : u = Value.ref a := rx
    obtain ⟨ob, od, _, J, _⟩ := inst_of I.hok ea ed
    exact ⟨_, PySem.W.kitx_exc cl T.hg T.hk T.hs T.ha T.hn T.ht T.hm, J, fun q => nomatch q⟩
/-- isinstance(x, C), x data or held -/
theorem call_isE : CallR X (.builtin "isinstance") (fun xs H Q => ∃ (x c : V) (t u : Value) (b : Bool), xs = [x, c] ∧ ClsV c u ∧ TyE X.K H x t ∧ PySem.W.kitOne X.K t u = some b ∧ Q (.bl b) H) := by
  intro pins z σ H xs us Q I r h
  obtain ⟨x, c, t, u, b, rfl, k, ty, e, q⟩ := h
  obtain ⟨u1, u2, rfl, r1, r2⟩ := vals2 r
  obtain rfl := k.eq r2
  obtain ⟨_, Z, pz, hx⟩ := kit_ofE I r1 ty
  exact PySem.W.kia_one Z I.kIn pz e hx (fun tk => ⟨.bl b, H, I.tok tk, rfl, q⟩)
/-- .. of a tuple of classes -/
theorem call_isEt : CallR X (.builtin "isinstance") (fun xs H Q => ∃ (x : V) (tp : Addr) (cs : List V) (t : Value) (us : List Value) (b : Bool), xs = [x, .ref tp] ∧ H tp = some (.tup cs) ∧ Paired ClsV cs us ∧ TyE X.K H x t ∧ PySem.W.kitAny X.K t us = some b ∧ Q (.bl b) H) := by
  intro pins z σ H xs us Q I r h
  obtain ⟨x, tp, cs, t, ws, b, rfl, ht, k, ty, e, q⟩ := h
  obtain ⟨u1, u2, rfl, r1, r2⟩ := vals2 r
  obtain rfl : u2 = Value.ref tp := r2
  obtain ⟨_, Z, pz, hx⟩ := kit_ofE I r1 ty
  have hk : ObjOk X.prog X.w H z.heap tp (.tup cs) := I.hok tp _ ht
  obtain ⟨_, its, rv, ⟨oc, od, dt, sl⟩, g1, g2, n, g3⟩ := hk
  obtain rfl := ClsV.all k rv
  dsimp only at g2 g3
  subst g2 g3
  exact PySem.W.kia_tup Z I.kIn pz g1 e hx (fun tk => ⟨.bl b, H, I.tok tk, rfl, q⟩)
/-- e.f of what is held -/
theorem pe_fldE {e : Expr} {te : TE} {n : Str} {pos : Pos} (he : PE X e te) (hb : attributeBase e n X.env (eval e X.env) = eval e X.env := by rfl) :
    PE X (.Attribute e n pos) (fun σ H Q => te σ H fun x H1 => ∃ (a C d : Addr) (fs : List (Str × V)) (v : V), x = .ref a ∧ XfC X.K C ∧ PySem.W.findIn X.K (.ref C) n = some none ∧ H1 a = some (ExV a (.ref C) (some d)) ∧ H1 d = some (.xd fs) ∧ fs.lookup n = some v ∧ Q v H1) := by
  refine ⟨fun pins z σ H Q I h => attr_of hb (thn (he.run pins z σ H _ I h) fun u z1 got => ?_)⟩
  obtain ⟨x, H1, I1, rx, a, C, d, fs, v, rfl, T, hno, ea, ed, l, q⟩ := got
  obtain rfl : u = Value.ref a := rx
  obtain ⟨ob, od, mA, J, hl, hr⟩ := inst_of I1.hok ea ed
  obtain ⟨u', hu, ru⟩ := RelO.some_of (v := v) (o := mA n) (by rw [← l]; exact hr n)
  exact HandSPX.exc_get I1.kIn J T.ga T.gg T.exC (PySem.W.findObj_own T.hdC hno rfl (by rw [hl, hu])) (handed_of ru) ⟨v, H1, I1.tok _, ru, q⟩
theorem kit_err {K : PySem.W.Frag} {mg : Str → Option Value} {x fl : Str} {C D : Addr} {b : Bool} (T : ErrF K mg x fl D) (s : PySem.W.subIn K (.ref C) (.ref D) = some b) : PySem.W.kitOne K (.ref C) (.ref D) = some b := by
  unfold PySem.W.kitOne
  by_cases e : C = D
  · subst e
    rw [if_pos (beq_self_eq_true _)]
    exact T.rf.symm.trans s
  · rw [if_neg (by simpa using e)]
    unfold PySem.W.kitCls
    simp only [T.cl, T.ox.tyC, beq_self_eq_true, Bool.and_self, if_true]
    exact s
end
/-! ### the classes as they stand behind the top -/
structure BaseE (K : PySem.W.Frag) (mg : Str → Option Value) (x : Str) (C : Addr) : Prop where
  gC : mg x = some (.ref C)
  sb : PySem.W.subIn K (.ref C) (.type "BaseException") = some true
  hd : PySem.W.hasDictIn K C = true
  ty : PySem.W.typeIn K (.ref C) = some (.type "type")
section
variable {K : PySem.W.Frag} {h : Heap} {mg : Str → Option Value} {x y fl : Str} {C D : Addr}
theorem baseE_mk (X : K.In h) (G : h.Ns mainGlobals mg) (a : PySem.W.nsIn K mainGlobals x = some (some (.ref C))) (b : PySem.W.subIn K (.ref C) (.type "BaseException") = some true)
    (c : PySem.W.hasDictIn K C = true) (d : PySem.W.typeIn K (.ref C) = some (.type "type")) : BaseE K mg x C := ⟨PySem.W.mg_of X G a, b, c, d⟩
theorem with_base (_ : K.In h) (x : Str) {R : Prop} (d : BaseE K mg x C) (r : BaseE K mg x C → R) : R := r d
theorem exm_err (T : BaseE K mg x D) (s : PySem.W.subIn K (.ref C) (.ref D) = some true) : PySem.W.exmOne K (.ref C) (.ref D) = some true := PySem.W.exm_ref T.sb T.hd T.ty s
theorem sub_is (_ : mg x = some (.ref C)) (_ : mg y = some (.ref D)) (b : Bool) (s : PySem.W.subIn K (.ref C) (.ref D) = some b) : PySem.W.subIn K (.ref C) (.ref D) = some b := s
theorem with_sub {R : Prop} (_ : ErrF K mg x fl C) (_ : mg y = some (.ref D)) (b : Bool) (s : PySem.W.subIn K (.ref C) (.ref D) = some b) (r : PySem.W.subIn K (.ref C) (.ref D) = some b → R) : R := r s
theorem with_err (_ : K.In h) (x fl : Str) (st : Stmt) {R : Prop} (d : ErrF K mg x fl C) (r : ErrF K mg x fl C → R) : R := r d
theorem errF_mk (X : K.In h) (G : h.Ns mainGlobals mg) (qn : Str) (st : Stmt) {f T : Addr} {od an : Option Addr} {oc kV dc pm cd ct u : Value} {sl : Array (Option Value)} {o : Obj} {nn : Nat}
    {nm q : Str} {N : Addr} {bs bm : List Value} {sn : List Str} {sub : List Value} {ab : Bool} {col : Option Bool} {dd : Option Addr} {k0 k1 k2 k3 k5 : Option Value}
    (a : PySem.W.nsIn K mainGlobals x = some (some (.ref C)))
    (lk : K.lookup C = some (excClassObj nm q C N bs bm true sn sub ab col dd k0 k1 k2 k3 k5 "ValueError.__new__")) (hbm : PySem.HandSPX.refsVE bm = true)
    (sa : PySem.W.findIn K (.ref C) "__setattr__" = some (some (.builtin "object.__setattr__"))) (eC : PySem.W.subIn K (.ref C) (.type "BaseException") = some true)
    (tC : PySem.W.typeIn K (.ref C) = some (.type "type")) (kp : PySem.W.keepIn K (.ref C) = true)
    (ga : PySem.W.findIn K (.ref C) "__getattribute__" = some (some (.builtin "BaseException.__getattribute__"))) (gg : PySem.W.findIn K (.ref C) "__getattr__" = some none) (hd : PySem.W.hasDictIn K C = true)
    (hc : PySem.W.findIn K (.ref C) "__class__" = some (some (.builtin "object.__class__"))) (hn : PySem.W.specialIn K (.builtin "object.__class__") "__get__" = some (some (.builtin "getset_descriptor.__get__")))
    (ht : PySem.W.takesIn K (.builtin "object.__class__") = some true) (hm : PySem.W.mroIn K C (.type "object") = some true) (no : PySem.W.findIn K (.ref C) fl = some none)
    (rf : PySem.W.subIn K (.ref C) (.ref C) = some true) (ii : PySem.W.findIn K (.ref C) "__init__" = some (some (.ref f))) (it : PySem.W.typeIn K (.ref f) = some (.type "function"))
    (il : K.lookup f = some ⟨oc, od, .func (PySem.W.fnOf "__init__" qn (C8.fnArgs st) (C8.fnBody st) (C8.fnScope st) (.ref T) kV dc pm an cd ct), sl⟩) (ic : PySem.W.codeIn K cd qn = true) (ik : PySem.W.keepIn K (.ref f) = true)
    (dl : K.lookup T = some o) (dm : o.data = .seq #[u] nn) (dr : RelV .non u)
    (bd : ∀ (T : Addr) (kV doc pm : Value) (an : Option Addr) (cdv ct : Value) (us its : List Value), us.length = 2 → its.length = 1 →
      ∃ k, bindArgs (PySem.W.fnOf "__init__" qn (C8.fnArgs st) (C8.fnBody st) (C8.fnScope st) (.ref T) kV doc pm an cdv ct) ⟨us, []⟩ = seqItems? (.ref T) >>= k ∧ k (some its.toArray) = pure ([("self" : Str), fl].zip (us ++ its.drop 1)))
    (sc : FnScope ["self", fl] ["self", fl] (C8.fnScope st)) (l1 : (C8.fnScope st).names.lookup ("self" : Str) = some .local) (l2 : (C8.fnScope st).names.lookup fl = some .local) (n1 : (fl == ("__debug__" : Str)) = false) (n2 : (fl == ("__classdict__" : Str)) = false)
    (by_ : ∃ q1 q2 q3 q4, C8.fnBody st = [.Assign [.Attribute (.Name "self" q1) fl q2] (.Name fl q3) q4]) : ErrF K mg x fl C := by
  have F : FunD K "__init__" qn (C8.fnArgs st) (C8.fnBody st) (C8.fnScope st) [.non] [] f (PySem.W.fnOf "__init__" qn (C8.fnArgs st) (C8.fnBody st) (C8.fnScope st) (.ref T) kV dc pm an cd ct) :=
    ⟨⟨oc, od, .ref T, kV, dc, pm, an, cd, ct, sl, rfl, il, ic, dfl_one dl dm dr, kwd_nil⟩, ik⟩
  obtain ⟨ds, rd, hb⟩ := F.binds1 (ps := ["self", fl]) 2 1 (by simp) rfl bd
  cases rd
  have cl : (PySem.W.clsIn K C).isSome = true := by
    unfold PySem.W.clsIn
    rw [lk] <;> rfl
  exact ⟨PySem.W.mg_of X G a, ⟨⟨nm, q, N, bs, bm, sn, sub, ab, col, dd, k0, k1, k2, k3, k5, lk, hbm⟩, sa, eC, tC, kp⟩, ⟨ga, gg, eC, hd⟩, ⟨ga, gg, eC, hd, hc, hn, ht, hm⟩, no, cl, rf,
    st, qn, f, _, fun_of F, ii, it, hb, sc, l1, l2, n1, n2, by_⟩
end
end CK

set_option Elab.async false
set_option linter.all false
set_option maxRecDepth 100000
/-! (instance, number) == (instance, number): tuples whose instances are equal by their own == -/
namespace CK
open PySem PySem.Spec PyProof.Rows L2
section
variable {X : Cx} {k j : Nat} {C : Addr} {sp : Sp} {R : Addr → Addr → Hp → Prop}
/-- two of the class that R tells equal, or two equal flat values -/
abbrev DPart (C : Addr) (R : Addr → Addr → Hp → Prop) : Eqv := fun x y H => DIns C R x y H ∨ DFlat x y H
theorem op_eqTO (c : C8.Met X.prog X.w X.K X.mg X.base k C "__eq__" sp []) (hR : ∀ a b H H', Ext H H' → R a b H → R a b H') (hs : ∀ vs H Q E, spEq R vs H Q E → sp vs H Q E) (hr : Room j X.A) (hk : k + 1 ≤ j) : OpR X (compareOp .Eq) (rEqG (DTup X.K (DPart C R))) := by
  obtain ⟨f, fd, ps, ds, hc, hm, F, bnd, d⟩ := c.ex
  cases d
  have e1 : EqG X k (DIns C R) := eqG_ins (F.imp hs) hm.at_ hm.fn bnd (C8.pass0 (E := C8.E0))
  exact op_eqG (rcG_tup (Mon.or (mon_ins hR) mon_flat) (e1.or (eqG_flat.mono (Nat.zero_le _)))) (hr.mono hk)
end
end CK

set_option Elab.async false
set_option linter.all false
set_option maxRecDepth 100000
/-! lists of instances: == by their own ==; != of two lists of the same objects -/
namespace CK
open PySem PySem.Spec PyProof.Rows L2
section
variable {X : Cx} {k j : Nat} {C : Addr} {sp : Sp} {R : Addr → Addr → Hp → Prop}
theorem op_eqLO (c : C8.Met X.prog X.w X.K X.mg X.base k C "__eq__" sp []) (hR : ∀ a b H H', Ext H H' → R a b H → R a b H') (hs : ∀ vs H Q E, spEq R vs H Q E → sp vs H Q E) (hr : Room j X.A) (hk : k + 1 ≤ j) : OpR X (compareOp .Eq) (rEqG (DList (DIns C R))) := by
  obtain ⟨f, fd, ps, ds, hc, hm, F, bnd, d⟩ := c.ex
  cases d
  have e1 : EqG X k (DIns C R) := eqG_ins (F.imp hs) hm.at_ hm.fn bnd (C8.pass0 (E := C8.E0))
  exact op_eqG (rcG_list (mon_ins hR) e1) (hr.mono hk)
theorem refs_its : ∀ {as : List Addr} {us : List Value}, Vals (as.map V.ref) us → us = as.map Value.ref
  | [], _, r => by cases r; rfl
  | a :: as, _, r => by
    cases r with
    | cons h t =>
      rw [refs_its t]
      have h : _ = Value.ref a := h
      rw [h]
      rfl
theorem op_neRefs (hu : X.A.units < cLine) : OpR X (compareOp .NotEq) (fun x y H Q => ∃ (a b : Addr) (as : List Addr), x = .ref a ∧ y = .ref b ∧ H a = some (.lst (as.map V.ref)) ∧ H b = some (.lst (as.map V.ref)) ∧ Q (.bl false) H) := by
  intro pins s σ H x y v u Q I rx ry h
  obtain ⟨a, b, as, rfl, rfl, ha, hb, q⟩ := h
  cases rx
  cases ry
  obtain ⟨its, r1, l1, _⟩ := I.list (.inl (.inl ha))
  obtain ⟨its2, r2, l2, _⟩ := I.list (.inl (.inl hb))
  rw [refs_its r1] at l1
  rw [refs_its r2] at l2
  show wpAny (model X.prog X.w) X.A (richCompare .NotEq (.ref a) (.ref b)) (EP X pins σ Q) X.xe s
  refine SeqAt.RcNeAt.lists (e := fun _ => true) l1.isList l2.isList rfl hu (fun j h1 h2 => SeqAt.EqAt.same _) X.prog X.w _ _ ?_
  have e : (!(List.range (as.map Value.ref).toArray.size).all fun _ => true) = false := by simp
  rw [e]
  exact ⟨.bl false, H, I, rfl, q⟩
/-- xs == [], whatever the items are -/
theorem op_eqNil (hu : X.A.units < cLine) : OpR X (compareOp .Eq) (fun x y H Q => ∃ (a b : Addr) (xs : List V), x = .ref a ∧ y = .ref b ∧ H a = some (.lst xs) ∧ H b = some (.lst []) ∧ Q (.bl (decide (xs = []))) H) := by
  intro pins s σ H x y v u Q I rx ry h
  obtain ⟨a, b, xs, rfl, rfl, ha, hb, q⟩ := h
  cases rx
  cases ry
  obtain ⟨its, r1, l1, _⟩ := I.list (.inl (.inl ha))
  obtain ⟨its2, r2, l2, _⟩ := I.list (.inl (.inl hb))
  have n2 : its2 = [] := List.length_eq_zero_iff.mp (by rw [← r2.length]; rfl)
  subst n2
  show wpAny (model X.prog X.w) X.A (richCompare .Eq (.ref a) (.ref b)) (EP X pins σ Q) X.xe s
  cases xs with
  | nil =>
    have n1 : its = [] := List.length_eq_zero_iff.mp (by rw [← r1.length]; rfl)
    subst n1
    refine SeqAt.RcAt.lists (e := fun _ => true) l1.isList l2.isList rfl hu (fun j h1 h2 => absurd h1 (by simp)) X.prog X.w _ _ ?_
    exact ⟨.bl true, H, I, rfl, q⟩
  | cons x xs =>
    have n1 : its.length = xs.length + 1 := by rw [← r1.length]; rfl
    refine SeqAt.RcAt.lists_lengths l1.isList l2.isList (by simp [n1]) hu X.prog X.w _ _ ?_
    exact ⟨.bl false, H, I, rfl, q⟩
end
end CK

set_option linter.all false
namespace CK
open PySem PySem.Spec PyProof.Rows L2
/-- != of data within a comprehension -/
theorem op_neDK {X : Cx} {K : PySem.W.Frag} (hK : X.K = K) (hu : X.A.units + 64 < cLine) : OpR X (compareOp .NotEq) (rNeD K) := by
  subst hK
  exact op_neD hu
end CK

set_option Elab.async false
set_option linter.all false
set_option maxRecDepth 100000
set_option maxHeartbeats 2000000
/-! values of any kind, by their data -/
namespace CK
open PySem PySem.Spec PyProof.Rows L2
section
variable {K : PySem.W.Frag} {H H' : Hp}
theorem sqL_same {a : Addr} {xs : List V} (s : Same H H') : SqL K H a xs → SqL K H' a xs
  | .inl (.inl e) => .inl (.inl (s _ _ e))
  | .inl (.inr ⟨o, e⟩) => .inl (.inr ⟨o, s _ _ e⟩)
  | .inr h => .inr h
theorem sqT_same {a : Addr} {xs : List V} (s : Same H H') : SqT K H a xs → SqT K H' a xs
  | .inl (.inl e) => .inl (.inl (s _ _ e))
  | .inl (.inr ⟨o, e⟩) => .inl (.inr ⟨o, s _ _ e⟩)
  | .inr h => .inr h
mutual
theorem dp_same (s : Same H H') : ∀ (d : PyData) (v : V), Dp K H v d → Dp K H' v d
  | .none, _, h => by cases h; exact .non
  | .bool b, _, h => by cases h; exact .bl b
  | .int i, _, h => by cases h; exact .int i
  | .str x, _, h => by cases h; exact .str x
  | .list ds, _, h => by cases h with | lst a b => exact .lst (sqL_same s a) (dpAll_same s ds _ b)
  | .tuple ds, _, h => by cases h with | tup a b => exact .tup (sqT_same s a) (dpAll_same s ds _ b)
  | .dict es, _, h => by cases h
theorem dpAll_same (s : Same H H') : ∀ (ds : List PyData) (vs : List V), DpAll K H vs ds → DpAll K H' vs ds
  | [], _, h => by cases h; exact .nil
  | d :: ds, _, h => by cases h with | cons a b => exact .cons (dp_same s d _ a) (dpAll_same s ds _ b)
end
theorem dpAll_len : ∀ {vs : List V} {ds : List PyData}, DpAll K H vs ds → vs.length = ds.length
  | _, _, .nil => rfl
  | _, _, .cons _ t => congrArg (· + 1) (dpAll_len t)
theorem dpAll_get : ∀ {vs : List V} {ds : List PyData} {i : Nat} {v : V}, DpAll K H vs ds → vs[i]? = some v → ∃ d, ds[i]? = some d ∧ Dp K H v d
  | _, _, 0, _, .cons a _, e => ⟨_, rfl, by cases e; exact a⟩
  | _, _, i + 1, _, .cons _ t, e => dpAll_get (i := i) t (by simpa using e)
end
/-- the built-in type of a value -/
def kindD : PyData → String
  | .none => "NoneType"
  | .bool _ => "bool"
  | .int _ => "int"
  | .str _ => "str"
  | .list _ => "list"
  | .tuple _ => "tuple"
  | .dict _ => "dict"
theorem tyX_dp {K : PySem.W.Frag} {H : Hp} {v : V} {d : PyData} (h : Dp K H v d) : TyX K H v (.type (kindD d)) := by
  cases h with
  | non => exact .base .non
  | bl b => exact .base (.bl b)
  | int i => exact .base (.int i)
  | str x => exact .base (.str x)
  | lst a _ =>
    rcases a with (e | ⟨o, e⟩) | ⟨o, its, n, e, c, _⟩
    · exact .base (.lst e)
    · exact .base (.frz e)
    · exact .kList e c
  | tup a _ =>
    rcases a with (e | ⟨o, e⟩) | ⟨o, its, n, e, c, _⟩
    · exact .base (.tup e)
    · exact .fTuple e
    · exact .kTuple e c
section
variable {X : Cx}
/-- isinstance of data -/
theorem call_isD : CallR X (.builtin "isinstance") (fun xs H Q => ∃ (v : V) (d : PyData) (T : String) (b : Bool), xs = [v, .ty T] ∧ Dp X.K H v d ∧ kitB (kindD d) T = some b ∧ Q (.bl b) H) := by
  intro pins s σ H xs us Q I r h
  obtain ⟨v, d, T, b, rfl, k, e, q⟩ := h
  exact call_isi pins s σ H _ us Q I r ⟨v, .ty T, _, _, b, rfl, .ty T, tyX_dp k, kit_ty e, q⟩
end
def isInt : PyData → Bool
  | .int _ => true
  | _ => false
def isBool : PyData → Bool
  | .bool _ => true
  | _ => false
def isLd : PyData → Bool
  | .list _ => true
  | _ => false
def isTd : PyData → Bool
  | .tuple _ => true
  | _ => false
def isSd : PyData → Bool
  | .str _ => true
  | _ => false
theorem kitd_int : ∀ d : PyData, kitB (kindD d) "int" = some (isInt d || isBool d)
  | .none => (by decide +kernel : kitB "NoneType" "int" = some false)
  | .bool _ => (by decide +kernel : kitB "bool" "int" = some true)
  | .int _ => (by decide +kernel : kitB "int" "int" = some true)
  | .str _ => (by decide +kernel : kitB "str" "int" = some false)
  | .list _ => (by decide +kernel : kitB "list" "int" = some false)
  | .tuple _ => (by decide +kernel : kitB "tuple" "int" = some false)
  | .dict _ => (by decide +kernel : kitB "dict" "int" = some false)
theorem kitd_bool : ∀ d : PyData, kitB (kindD d) "bool" = some (isBool d)
  | .none => (by decide +kernel : kitB "NoneType" "bool" = some false)
  | .bool _ => (by decide +kernel : kitB "bool" "bool" = some true)
  | .int _ => (by decide +kernel : kitB "int" "bool" = some false)
  | .str _ => (by decide +kernel : kitB "str" "bool" = some false)
  | .list _ => (by decide +kernel : kitB "list" "bool" = some false)
  | .tuple _ => (by decide +kernel : kitB "tuple" "bool" = some false)
  | .dict _ => (by decide +kernel : kitB "dict" "bool" = some false)
theorem kitd_list : ∀ d : PyData, kitB (kindD d) "list" = some (isLd d)
  | .none => (by decide +kernel : kitB "NoneType" "list" = some false)
  | .bool _ => (by decide +kernel : kitB "bool" "list" = some false)
  | .int _ => (by decide +kernel : kitB "int" "list" = some false)
  | .str _ => (by decide +kernel : kitB "str" "list" = some false)
  | .list _ => (by decide +kernel : kitB "list" "list" = some true)
  | .tuple _ => (by decide +kernel : kitB "tuple" "list" = some false)
  | .dict _ => (by decide +kernel : kitB "dict" "list" = some false)
theorem kitd_tuple : ∀ d : PyData, kitB (kindD d) "tuple" = some (isTd d)
  | .none => (by decide +kernel : kitB "NoneType" "tuple" = some false)
  | .bool _ => (by decide +kernel : kitB "bool" "tuple" = some false)
  | .int _ => (by decide +kernel : kitB "int" "tuple" = some false)
  | .str _ => (by decide +kernel : kitB "str" "tuple" = some false)
  | .list _ => (by decide +kernel : kitB "list" "tuple" = some false)
  | .tuple _ => (by decide +kernel : kitB "tuple" "tuple" = some true)
  | .dict _ => (by decide +kernel : kitB "dict" "tuple" = some false)
theorem kitd_str : ∀ d : PyData, kitB (kindD d) "str" = some (isSd d)
  | .none => (by decide +kernel : kitB "NoneType" "str" = some false)
  | .bool _ => (by decide +kernel : kitB "bool" "str" = some false)
  | .int _ => (by decide +kernel : kitB "int" "str" = some false)
  | .str _ => (by decide +kernel : kitB "str" "str" = some true)
  | .list _ => (by decide +kernel : kitB "list" "str" = some false)
  | .tuple _ => (by decide +kernel : kitB "tuple" "str" = some false)
  | .dict _ => (by decide +kernel : kitB "dict" "str" = some false)
theorem isInt_of {d : PyData} (h : isInt d = true) : ∃ i, d = .int i := by
  cases d with
  | int i => exact ⟨i, rfl⟩
  | _ => exact absurd h Bool.false_ne_true
/-- a comprehension that maps the items of a list -/
theorem lcS_map {K : PySem.W.Frag} {a : Addr} {xs : List V} {j : Nat} {te : TE} {vs : List Nat} {σ : L2.St} {H1 : Hp} {D : Addr} {Qd : Hp → Prop} (f : Nat → V) (ha : SqL K H1 a xs) (hn : xs.length < sizeLine)
    (hs : ∀ (i : Nat) (x : V) (H : Hp) (R : VK), xs[i]? = some x → Same H1 H → (∀ H', Same H H' → R (f i) H') → wipe ((wipe σ vs).set j (some x)) vs = wipe σ vs ∧ te ((wipe σ vs).set j (some x)) H R)
    (hD : H1 D = none) (hd : ∀ H : Hp, Same H1 H → H D = some (.lst ((List.range xs.length).map f)) → Qd H) :
    ∃ W : Nat → Nat → Hp → Prop, (∃ m, W 0 m (upd H1 D (.lst []))) ∧ ∀ i m H, W i m H →
      ((Itl K a).stop i H ∧ Qd H) ∨ ((Itl K a).go i H ∧ ∃ Nx : Hp → Prop, (∀ H', Nx H' → ∃ m', m' < m ∧ W (i + 1) m' H') ∧ ∀ x H', (Itl K a).yld i H x H' → gName j x (wipe σ vs) H' fun σ2 H2 => wipe σ2 vs = wipe σ vs ∧ tYes σ2 H2 fun b H3 =>
        if b = true then te σ2 H3 fun y H4 => ∃ acc, H4 D = some (.lst acc) ∧ acc.length < sizeLine ∧ Nx (upd H4 D (.lst (acc ++ [y]))) else Nx H3) := by
  refine lc_mapW (walk_list (K := K) (a := a) (xs := xs)) f hn (fun H s => sqL_same s ha) (fun i x H H' R hi s y q => ?_) hD hd
  obtain ⟨rfl, hx⟩ := y
  exact hs i x H' R hx s q
/-! what repr asks of data -/
mutual
def okD : PyData → Bool
  | .none | .bool _ => true
  | .int i => decide (i.natAbs < 2 ^ 1900)
  | .str x => x.cps.toList.all fun c => decide (c < 16 ^ 8)
  | .list xs | .tuple xs => okDs xs
  | .dict _ => false
def okDs : List PyData → Bool
  | [] => true
  | x :: xs => okD x && okDs xs
end
mutual
def bndD : PyData → Nat
  | .none | .bool _ => 8
  | .int _ => 1923
  | .str x => 10 * x.length + 2
  | .list xs | .tuple xs => bndDs xs + 3
  | .dict _ => 0
def bndDs : List PyData → Nat
  | [] => 0
  | x :: xs => bndD x + 2 + bndDs xs
end
theorem shownAll_len : ∀ xs : List PyData, (PyData.shownAll xs).length = xs.length
  | [] => by simp [PyData.shownAll]
  | x :: xs => by rw [PyData.shownAll, List.length_cons, List.length_cons, shownAll_len xs]
mutual
theorem fine0 : ∀ d : PyData, okD d = true → d.showable = true ∧ d.hasDict = false ∧ d.shown.length ≤ bndD d
  | .none, _ => by decide +kernel
  | .bool true, _ => by decide +kernel
  | .bool false, _ => by decide +kernel
  | .int i, h => by
    have hl := log_lt (of_decide_eq_true h)
    have a1 := int_text_length_le (a := i) (k := 1920) (by omega) hl
    have a3 : ((toString i : Str)).length = (toString i).length := PySem.ofString_length _
    have e : PyData.shown (.int i) = (toString i : Str) := by simp only [PyData.shown]
    refine ⟨by simp [PyData.showable, hl], by simp [PyData.hasDict], ?_⟩
    rw [e, bndD]
    omega
  | .str x, h => by
    refine ⟨by simp [PyData.showable], by simp [PyData.hasDict], ?_⟩
    rw [PyData.shown, bndD]
    refine StrLaws.reprText_len _ fun c hc => ?_
    have := List.all_eq_true.mp h c (by simpa using hc)
    simpa using this
  | .list xs, h => by
    obtain ⟨a1, a2, a3⟩ := fine1 xs h
    refine ⟨by rw [PyData.showable, a1], by rw [PyData.hasDict, a2], ?_⟩
    rw [PyData.shown, bndD]
    have := listText_len_le (PyData.shownAll xs)
    rw [shownAll_len] at this
    omega
  | .tuple xs, h => by
    obtain ⟨a1, a2, a3⟩ := fine1 xs h
    refine ⟨by rw [PyData.showable, a1], by rw [PyData.hasDict, a2], ?_⟩
    rw [PyData.shown, bndD]
    have := tupleText_len_le (PyData.shownAll xs)
    rw [shownAll_len] at this
    omega
  | .dict kvs, h => absurd h Bool.false_ne_true
theorem fine1 : ∀ xs : List PyData, okDs xs = true → PyData.showableAll xs = true ∧ PyData.hasDictAll xs = false ∧ ((PyData.shownAll xs).map (·.length)).sum + 2 * xs.length ≤ bndDs xs
  | [], _ => by decide +kernel
  | x :: xs, h => by
    have h' : (okD x && okDs xs) = true := h
    obtain ⟨h1, h2⟩ := Bool.and_eq_true_iff.mp h'
    obtain ⟨a1, a2, a3⟩ := fine0 x h1
    obtain ⟨b1, b2, b3⟩ := fine1 xs h2
    refine ⟨by rw [PyData.showableAll, a1, b1]; rfl, by rw [PyData.hasDictAll, a2, b2]; rfl, ?_⟩
    rw [PyData.shownAll, List.map_cons, List.sum_cons, List.length_cons, bndDs]
    omega
end
/-- data that repr takes -/
def Fine (d : PyData) : Prop := d.showable = true ∧ d.hasDict = false ∧ d.depth ≤ 60 ∧ d.shown.length ≤ sizeLine
theorem fine_of {d : PyData} (h : okD d = true) (hd : d.depth ≤ 60) (hb : bndD d ≤ 16000000) : Fine d := by
  obtain ⟨a, b, c⟩ := fine0 d h
  exact ⟨a, b, hd, by rw [sizeLine_eq]; omega⟩
section
variable {X : Cx} {j : Nat}
/-- repr of fine data -/
theorem call_reprF (hr : Room j X.A) (gd : X.A.guards = some []) : CallR X (.builtin "repr") (fun xs H Q => ∃ (v : V) (d : PyData), xs = [v] ∧ Dp X.K H v d ∧ Fine d ∧ Q (.str d.shown) H) := by
  intro pins s σ H xs us Q I r h
  obtain ⟨v, d, rfl, dp, ⟨a, b, c, e⟩, q⟩ := h
  exact call_repr hr gd pins s σ H _ us Q I r ⟨v, d, rfl, dp, a, b, c, e, q⟩
end
end CK

set_option Elab.async false
set_option linter.all false
set_option maxRecDepth 100000
set_option maxHeartbeats 4000000
/-! isinstance(x, C) of an own class: x an object of the class, or data -/
namespace CK
open PySem PySem.Spec PyProof.Rows L2
theorem kit_dataC {K : PySem.W.Frag} {C : Addr} (t : TyC K C) (d : PyData) : PySem.W.kitOne K (.type (kindD d)) (.ref C) = some false := by
  obtain ⟨od, cd, sl, l⟩ := t
  have s : PySem.W.subIn K (.type (kindD d)) (.ref C) = some false := by cases d <;> rfl
  have h1 : PySem.W.clsIn K C = some cd := by unfold PySem.W.clsIn; rw [l]
  have h2 : PySem.W.typeIn K (.ref C) = some (.type "type") := by
    show (K.lookup C).map _ = _
    rw [l]
    rfl
  have h3 : PySem.W.kitCls K (.type (kindD d)) (.ref C) = some false := by
    unfold PySem.W.kitCls
    dsimp only
    rw [h1, h2, s]
    rfl
  unfold PySem.W.kitOne
  rw [h3]
  cases d <;> rfl
theorem call_isCD {X : Cx} {C : Addr} (c : C8.InsC X.K C) (t : TyC X.K C) : CallR X (.builtin "isinstance") (fun xs H Q => (∃ a dx fs, xs = [.ref a, .ref C] ∧ H a = some (.ins C dx fs) ∧ Q (.bl true) H) ∨ ∃ v d, xs = [v, .ref C] ∧ Dp X.K H v d ∧ Q (.bl false) H) := by
  intro pins s σ H xs us Q I r h
  rcases h with h | ⟨v, d, rfl, k, q⟩
  · exact C8.call_isC c pins s σ H xs us Q I r h
  · exact call_isi pins s σ H _ us Q I r ⟨v, .ref C, .type (kindD d), .ref C, false, rfl, .own C, tyX_dp k, kit_dataC t d, q⟩
/-- a comprehension that maps the items of a tuple -/
theorem lcTS_map {K : PySem.W.Frag} {a : Addr} {xs : List V} {j : Nat} {te : TE} {vs : List Nat} {σ : L2.St} {H1 : Hp} {D : Addr} {Qd : Hp → Prop} (f : Nat → V) (ha : SqT K H1 a xs) (hn : xs.length < sizeLine)
    (hs : ∀ (i : Nat) (x : V) (H : Hp) (R : VK), xs[i]? = some x → Same H1 H → (∀ H', Same H H' → R (f i) H') → wipe ((wipe σ vs).set j (some x)) vs = wipe σ vs ∧ te ((wipe σ vs).set j (some x)) H R)
    (hD : H1 D = none) (hd : ∀ H : Hp, Same H1 H → H D = some (.lst ((List.range xs.length).map f)) → Qd H) :
    ∃ W : Nat → Nat → Hp → Prop, (∃ m, W 0 m (upd H1 D (.lst []))) ∧ ∀ i m H, W i m H →
      ((Itt K a).stop i H ∧ Qd H) ∨ ((Itt K a).go i H ∧ ∃ Nx : Hp → Prop, (∀ H', Nx H' → ∃ m', m' < m ∧ W (i + 1) m' H') ∧ ∀ x H', (Itt K a).yld i H x H' → gName j x (wipe σ vs) H' fun σ2 H2 => wipe σ2 vs = wipe σ vs ∧ tYes σ2 H2 fun b H3 =>
        if b = true then te σ2 H3 fun y H4 => ∃ acc, H4 D = some (.lst acc) ∧ acc.length < sizeLine ∧ Nx (upd H4 D (.lst (acc ++ [y]))) else Nx H3) := by
  refine lc_mapW (walk_tup (K := K) (a := a) (xs := xs)) f hn (fun H s => SqT.ext ha fun b o e => s b o e) (fun i x H H' R hi s y q => ?_) hD hd
  obtain ⟨rfl, hx⟩ := y
  exact hs i x H' R hx s q
end CK

set_option Elab.async false
set_option linter.all false
set_option maxRecDepth 100000
set_option maxHeartbeats 4000000
/-! [x, ..] != [x, ..] of the same things: an object is equal to itself, whatever it is -/
namespace CK
open PySem PySem.Spec PyProof.Rows L2
/-- an object, or a flat value that is equal to itself -/
def IdV (x : V) : Prop := (flatV x = true ∧ eqV x x = true) ∨ ∃ a, x = .ref a
theorem idAt {A : Around} {s : Shared} {x : V} {u v : Value} (h : IdV x) (rx : RelV x u) (ry : RelV x v) : SeqAt.EqAt A s u v true := by
  rcases h with ⟨f, e⟩ | ⟨a, rfl⟩
  · have q := eqAt_V (A := A) (s := s) rx ry f f
    rw [e] at q
    exact q
  · obtain rfl : u = Value.ref a := rx
    obtain rfl : v = Value.ref a := ry
    exact SeqAt.EqAt.same _
theorem op_neId {X : Cx} (hu : X.A.units < cLine) : OpR X (compareOp .NotEq) (fun x y H Q => ∃ p q xs, x = .ref p ∧ y = .ref q ∧ H p = some (.lst xs) ∧ H q = some (.lst xs) ∧ (∀ z ∈ xs, IdV z) ∧ Q (.bl false) H) := by
  intro pins s σ H x y v u Q I rx ry h
  obtain ⟨p, q, xs, rfl, rfl, hp, hq, hz, qq⟩ := h
  cases rx
  cases ry
  obtain ⟨_, its, k, r, e⟩ := I.hok p _ hp
  obtain ⟨_, its2, k2, r2, e2⟩ := I.hok q _ hq
  have sz : its.toArray.size = its2.toArray.size := by rw [List.size_toArray, List.size_toArray, ← r.length, ← r2.length]
  refine SeqAt.RcNeAt.lists (e := fun _ => true) ⟨_, e, rfl, _, rfl⟩ ⟨_, e2, rfl, _, rfl⟩ sz hu (fun j h1 h2 => ?_) X.prog X.w X.xe _ ?_
  · have g1 : its[j]? = some its.toArray[j] := by
      have h1' : j < its.length := by simpa using h1
      rw [List.getElem?_eq_getElem h1'] <;> simp
    have g2 : its2[j]? = some its2.toArray[j] := by
      have h2' : j < its2.length := by simpa using h2
      rw [List.getElem?_eq_getElem h2'] <;> simp
    have k1 : j < xs.length := by rw [r.length]; simpa using h1
    obtain ⟨u1, hu1, ru⟩ := r.get (List.getElem?_eq_getElem k1)
    obtain ⟨v1, hv1, rv⟩ := r2.get (List.getElem?_eq_getElem k1)
    rw [g1] at hu1
    rw [g2] at hv1
    rw [Option.some.inj hu1, Option.some.inj hv1]
    exact idAt (hz _ (List.getElem_mem k1)) ru rv
  · have e0 : (!(List.range its.toArray.size).all fun _ => true) = false := by simp
    rw [e0]
    exact ⟨.bl false, H, I, rfl, qq⟩
end CK

set_option Elab.async false
set_option linter.all false
set_option maxRecDepth 100000
set_option maxHeartbeats 4000000
/-! a held exception's field, with the fragment named: for a reading within the suite of a try -/
namespace CK
open PySem PySem.Spec PyProof.Rows L2
theorem pe_fldEK {X : Cx} {K : PySem.W.Frag} (hK : X.K = K) {e : Expr} {te : TE} {n : Str} {pos : Pos} (he : PE X e te) (hb : attributeBase e n X.env (eval e X.env) = eval e X.env := by rfl) :
    PE X (.Attribute e n pos) (fun σ H Q => te σ H fun x H1 => ∃ (a C d : Addr) (fs : List (Str × V)) (v : V), x = .ref a ∧ XfC K C ∧ PySem.W.findIn K (.ref C) n = some none ∧ H1 a = some (ExV a (.ref C) (some d)) ∧ H1 d = some (.xd fs) ∧ fs.lookup n = some v ∧ Q v H1) := by
  subst hK
  exact pe_fldE he hb
end CK

set_option Elab.async false
set_option linter.all false
set_option maxRecDepth 100000
set_option maxHeartbeats 2000000
/-! the law's end, where no repr is under way -/
namespace CK
open PySem PySem.Spec PyProof.Rows L2
theorem DefF.oneG {K : PySem.W.Frag} {mg : Str → Option Value} {x p : Str} {st : Stmt} (D : DefF K mg x st [p]) : ∃ (f : Addr) (fd : FuncData), mg x = some (.ref f) ∧ (∀ (s : Shared) (v : Value), BindsTo s fd ⟨[v], []⟩ [(p, v)]) ∧
    ∀ {P : Program} {w : World} {base : Heap} {N : List Str} {k : Nat} {sp : Sp} (S : FnScope N [p] (C8.fnScope st)) (len : ∀ vs H Q E, sp vs H Q E → vs.length = 1)
      (body : ∀ (cdv : Value) (A : Around) (outer : List Env) (z : Shared) (H : Hp) (vs : List V) (Q : VK) (E : XK), Room k (A.deeper (envOfC x (C8.fnScope st) z.heap.objs.size f cdv)) → A.guards = some [] → sp vs H Q E →
        ∃ t, PSs (cxOf C8.CX0 P w K mg base N x (C8.fnScope st) f cdv A outer z H E).nox (C8.fnBody st) t ∧ t { nx := fun _ H' => Q .non H', rt := Q } (start N vs) H), FnG P w K mg base (k + 1) f fd [p] sp := by
  obtain ⟨f, fd, F, b⟩ := D.ex
  exact ⟨f, fd, F.mgf, fun s v => .of_eq (b [v] rfl), fun S len body => fnG_of F.fn S len body⟩
section
variable {P : Program} {w : World} {K : PySem.W.Frag} {mg mb : Str → Option Value} {k : Nat} {fa a : Addr} {fd : FuncData} {x : Str} {sp : Sp} {z : Shared} {vs : List Value} {ns : List Int}
/-- from an abstract heap H that tracks the script at most -/
theorem callG_at (inK : K.In z.heap) (gl : z.heap.Ns mainGlobals mg) (bl : z.heap.Ns builtinsNs mb) (bb : ∀ x : Str, x ≠ "__name__" → mb x = bootBuiltins x) (lim : z.heap.NoLimit) (gens : z.gens = #[])
    (scr : z.heap.get? a = some { cls := .type "list", data := .seq vs.toArray }) (room : Room k callerA)
    (F : ∀ base : Heap, K.In base → base.Ns mainGlobals mg → FnG P w K mg base k fa fd [x] sp) (bind : ∀ (s : Shared) (u : Value), BindsTo s fd ⟨[u], []⟩ [(x, u)])
    (H : Hp) (only : Only H) (want : sp [.ref a] H (fun v _ => v = .bl true) fun _ _ _ => False) (hok : HOk P w H z.heap) (alone : ∀ b, H b ≠ none → b = a) (apart : H a ≠ none → K.lookup a = none) :
    codeAny (model P w) callerA (.call (.ref fa) ⟨[.ref a], []⟩) (fun r s' => r = .ok (.ret (.bool true)) ∧ OldK z.heap s'.heap ∧ s'.os = z.os ∧ AllBare s'.gens) z := by
  have isA : ∀ {b : Addr} {u : HO}, H b = some u → b = a := fun {b u} e => alone b fun n => by rw [n] at e; cases e
  have hid : ∀ {b : Addr} {m : Str → Option Value}, z.heap.Ns b m → (hidT z.heap H).Ns b m := by
    intro b m h
    obtain ⟨o, es, ep, e, dt, rest⟩ := h
    refine ⟨o, es, ep, hidT_get e ?_, dt, rest⟩
    match q : H b with
    | none => rfl
    | some u =>
      rw [isA q, scr] at e
      cases e
      exact absurd dt (fun y => by cases y)
  have inB : K.In (hidT z.heap H) := by
    intro b o e
    refine hidT_get (inK b o e) ?_
    match q : H b with
    | none => rfl
    | some u =>
      have ba := isA q
      subst ba
      rw [apart (by rw [q]; exact fun y => by cases y)] at e
      exact absurd e (fun y => by cases y)
  obtain ⟨mc, l1, l2⟩ := lim
  have md : Mod K mg (hidT z.heap H) := ⟨inB, hid gl, ⟨mb, hid bl, bb⟩, ⟨mc, hid l1, l2⟩⟩
  have en : Env0 P w K mg (hidT z.heap H) callerA [] z H :=
    { frames := rfl, mod := md, bs := fun b o e => of_hidT e, bsz := Nat.le_of_eq (hidT_size _ _), funs := trivial, frf := fun b hb => absurd (show b ∈ ([] : List Addr) from hb) List.not_mem_nil, hok := hok, bare := .of_eq gens }
  refine codeAny_mono ((F _ inB (hid gl)).go callerA [] z H ⟨[.ref a], []⟩ [.ref a] [.ref a] _ _ room rfl en (bind z (.ref a)) (.cons rfl .nil) want) fun r s' got => ?_
  match r, got with
  | .ok (.ret u), got =>
    obtain ⟨v, H', os, bare, un, hok', rv, q⟩ := got
    have q : v = .bl true := q
    subst q
    have eu : u = Value.bool true := rv
    subst eu
    refine ⟨rfl, OldK.of_keep fun b o e => ?_, os, bare⟩
    match q : H b with
    | none => exact un.keep b o e q (fun y => absurd (show b ∈ ([] : List Addr) from y) List.not_mem_nil) List.not_mem_nil
    | some u =>
      obtain y | ⟨ob, xs, y⟩ := only b
      · exact absurd (q.symm.trans y) (fun y => by cases y)
      · have o1 := (hok b _ y).1
        have o2 := (hok' b _ (un.frzs b ob _ y)).1
        rw [e] at o1
        rw [Option.some.inj o1]
        exact o2
  | .error e, got => exact absurd got (fun y => nomatch y)
theorem callG (inK : K.In z.heap) (gl : z.heap.Ns mainGlobals mg) (bl : z.heap.Ns builtinsNs mb) (bb : ∀ x : Str, x ≠ "__name__" → mb x = bootBuiltins x) (lim : z.heap.NoLimit) (gens : z.gens = #[])
    (scr : z.heap.get? a = some { cls := .type "list", data := .seq vs.toArray }) (nums : IntsAre vs ns) (len : ns.length ≤ sizeLine) (room : Room k callerA)
    (F : ∀ base : Heap, K.In base → base.Ns mainGlobals mg → FnG P w K mg base k fa fd [x] sp) (bind : ∀ (s : Shared) (u : Value), BindsTo s fd ⟨[u], []⟩ [(x, u)])
    (want : ∀ H : Hp, Only H → SqL K H a (ns.map V.int) → sp [.ref a] H (fun v _ => v = .bl true) fun _ _ _ => False) :
    codeAny (model P w) callerA (.call (.ref fa) ⟨[.ref a], []⟩) (fun r s' => r = .ok (.ret (.bool true)) ∧ OldK z.heap s'.heap ∧ s'.os = z.os ∧ AllBare s'.gens) z := by
  have vals := vals_ints nums
  match look : K.lookup a with
  | some o =>
    have e := inK a o look
    rw [scr] at e
    obtain rfl := Option.some.inj e
    refine callG_at inK gl bl bb lim gens scr room F bind (fun _ => none) (fun _ => .inl rfl) (want _ (fun _ => .inl rfl) (.inr ?_)) (fun b u y => absurd y (fun q => by cases q)) (fun b y => absurd rfl y) (fun y => absurd rfl y)
    exact ⟨_, vs.toArray, _, look, rfl, rfl, rfl, by rw [List.size_toArray, nums.length]; exact len, by simpa using vals⟩
  | none =>
    have at_ : ∀ b, (if b = a then some (HO.frz { cls := .type "list", data := .seq vs.toArray } (.lst (ns.map V.int))) else none) ≠ none → b = a := fun b y => by
      by_cases e : b = a
      · exact e
      · rw [if_neg e] at y
        exact absurd rfl y
    have only : Only fun b => if b = a then some (HO.frz { cls := .type "list", data := .seq vs.toArray } (.lst (ns.map V.int))) else none := fun b => by
      by_cases e : b = a
      · exact .inr ⟨_, _, if_pos e⟩
      · exact .inl (if_neg e)
    refine callG_at inK gl bl bb lim gens scr room F bind _ only (want _ only (.inl (.inr ⟨_, if_pos rfl⟩))) (fun b u y => ?_) at_ fun _ => look
    have e := at_ b (fun q => by have := q.symm.trans y; cases this)
    subst e
    have y' := (if_pos rfl).symm.trans y
    obtain rfl := Option.some.inj y'
    exact ⟨scr, by rw [List.length_map]; exact len, vs, _, vals, scr⟩
end
/-- what k_head leaves, from the law's promise -/
theorem walkG {l : PySem.W.OpenLaw} {n k : Nat} {q : Program} {loose : List Str} {XP : (Str → Option Value) → Heap → Prop} {YP : World → Heap → Prop} {d : DefRec} {K : Params → PySem.W.Frag} {sp : World → Sp} {x : Str}
    (most : l.most = some n) (small : n ≤ sizeLine) (plain : d.params.defaults = []) (room : Room k callerA) (inK : ∀ (w : World) (h : Heap), YP w h → (K w.params).In h)
    (F : ∀ (w : World) (mg : Str → Option Value) (fa : Addr) (h : Heap), (K w.params).In h → h.Ns mainGlobals mg → mg d.name = some (.ref fa) → ∃ fd : FuncData,
      (∀ (s : Shared) (u : Value), BindsTo s fd ⟨[u], []⟩ [(x, u)]) ∧ ∀ base : Heap, (K w.params).In base → base.Ns mainGlobals mg → FnG l.prog w (K w.params) mg base k fa fd [x] (sp w))
    (want : ∀ (w : World) (H : Hp) (a : Addr) (ns : List Int), ns.length ≤ n → Only H → SqL (K w.params) H a (ns.map V.int) → sp w [.ref a] H (fun v _ => v = .bl true) fun _ _ _ => False) :
    PySem.W.WalkO q loose XP YP l.row.toRowW d [] (fun f vs => PySem.call f vs) := by
  refine Att.attach_call most plain fun w _ z mg mb fa _ _ _ _ a vs ns G Y _ _ _ hmg scr nums hl gens => ?_
  have h1 := inK w _ Y
  obtain ⟨fd, bind, hF⟩ := F w mg fa _ h1 G.T.g hmg
  exact callG h1 G.T.g G.T.b G.T.builtins G.T.nolimit gens scr nums (Nat.le_trans hl small) room hF bind fun H hO hS => want w H a ns hl hO hS
end CK

set_option Elab.async false
set_option linter.all false
set_option maxRecDepth 100000
set_option maxHeartbeats 2000000
/-! what is shown of data has only characters that are -/
namespace CK
open PySem PySem.Spec PyProof.Rows L2
theorem ok_append {a b : Str} (h1 : PyData.strOk a = true) (h2 : PyData.strOk b = true) : PyData.strOk (a ++ b) = true := by
  unfold PyData.strOk at *
  have e : (a ++ b).cps = a.cps ++ b.cps := rfl
  rw [e, Array.all_append, h1, h2]
  rfl
theorem ok_of (s : String) : PyData.strOk (Str.ofString s) = true := by
  unfold PyData.strOk
  rw [PySem.Str.ofString_eq_toList]
  rw [List.all_toArray, List.all_map, List.all_eq_true]
  intro c _
  show decide (c.toNat < 0x110000) = true
  have := c.valid
  refine decide_eq_true ?_
  have h : c.val.toNat.isValidChar := this
  show c.val.toNat < _
  rcases h with h | h
  · omega
  · exact h.2
theorem ok_from : ∀ (ts : List Str) (k : Nat) (a : Str), PyData.strOk a = true → (∀ t ∈ ts, PyData.strOk t = true) → PyData.strOk (textFrom k a ts) = true
  | [], k, a, h, _ => h
  | t :: r, k, a, h, hs => by
    refine ok_from r (k + 1) _ (ok_append (ok_append h ?_) (hs t List.mem_cons_self)) fun x hx => hs x (List.mem_cons_of_mem _ hx)
    split <;> exact ok_of _
theorem ok_listText {ts : List Str} (h : ∀ t ∈ ts, PyData.strOk t = true) : PyData.strOk (listText ts) = true := ok_append (ok_from ts 0 _ (ok_of _) h) (ok_of _)
theorem ok_join {s : Str} (hs : PyData.strOk s = true) : ∀ ts : List Str, (∀ t ∈ ts, PyData.strOk t = true) → PyData.strOk (Str.join s ts) = true
  | [], _ => by
    show PyData.strOk Str.empty = true
    decide +kernel
  | [x], h => h x List.mem_cons_self
  | x :: y :: r, h => by
    show PyData.strOk (x ++ s ++ Str.join s (y :: r)) = true
    exact ok_append (ok_append (h x List.mem_cons_self) hs) (ok_join hs (y :: r) fun t ht => h t (List.mem_cons_of_mem _ ht))
theorem ok_tupleText {ts : List Str} (h : ∀ t ∈ ts, PyData.strOk t = true) : PyData.strOk (tupleText ts) = true := by
  unfold tupleText
  refine ok_append (ok_append (ok_of _) (ok_join (ok_of _) ts h)) ?_
  split <;> exact ok_of _
mutual
/-- no text, no dict within -/
def bareD : PyData → Bool
  | .none => true
  | .bool _ => true
  | .int _ => true
  | .str _ => false
  | .list xs => bareDs xs
  | .tuple xs => bareDs xs
  | .dict _ => false
def bareDs : List PyData → Bool
  | [] => true
  | x :: xs => bareD x && bareDs xs
end
mutual
theorem ok_shown : ∀ d : PyData, bareD d = true → PyData.strOk d.shown = true
  | .none, _ => by
    have e : PyData.shown .none = Str.ofString "None" := by simp only [PyData.shown]
    rw [e]; exact ok_of _
  | .bool b, _ => by
    have e : PyData.shown (.bool b) = (if b = true then Str.ofString "True" else Str.ofString "False") := by simp only [PyData.shown]
    rw [e]
    split <;> exact ok_of _
  | .int i, _ => by
    have e : PyData.shown (.int i) = (toString i : Str) := by simp only [PyData.shown]
    rw [e]; exact ok_of _
  | .str _, h => by simp [bareD] at h
  | .list xs, h => by
    rw [PyData.shown]
    rw [bareD] at h
    exact ok_listText (ok_shownAll xs h)
  | .tuple xs, h => by
    rw [PyData.shown]
    rw [bareD] at h
    exact ok_tupleText (ok_shownAll xs h)
  | .dict _, h => by simp [bareD] at h
theorem ok_shownAll : ∀ xs : List PyData, bareDs xs = true → ∀ t ∈ PyData.shownAll xs, PyData.strOk t = true
  | [], _ => fun t h => by rw [PyData.shownAll] at h; exact nomatch h
  | x :: xs, h => fun t ht => by
    rw [bareDs, Bool.and_eq_true] at h
    rw [PyData.shownAll] at ht
    rcases List.mem_cons.mp ht with rfl | ht
    · exact ok_shown x h.1
    · exact ok_shownAll xs h.2 t ht
end
theorem shaped_texts {a b : Str} (h1 : PyData.strOk a = true) (h2 : PyData.strOk b = true) : SeqAt.shaped (.list [.str a, .str b]) = true := by
  simp [SeqAt.shaped, PyData.depth, PyData.depthAll, PyData.canLay0, PyData.canLayAll0, h1, h2]
end CK

set_option Elab.async false
set_option linter.all false
set_option maxRecDepth 100000
set_option maxHeartbeats 2000000
/-! data that is written down: small, shown within bounds, by a test -/
namespace CK
open PySem PySem.Spec PyProof.Rows L2
def finB (d : PyData) : Bool := okD d && (decide (d.depth ≤ 60) && (decide (bndD d ≤ 16000000) && PyData.strOk d.shown))
theorem finB_ok {d : PyData} (h : finB d = true) : Fine d := by
  obtain ⟨a, h⟩ := Bool.and_eq_true_iff.mp h
  obtain ⟨b, h⟩ := Bool.and_eq_true_iff.mp h
  obtain ⟨c, _⟩ := Bool.and_eq_true_iff.mp h
  exact fine_of a (of_decide_eq_true b) (of_decide_eq_true c)
theorem finB_str {d : PyData} (h : finB d = true) : PyData.strOk d.shown = true := by
  obtain ⟨a, h⟩ := Bool.and_eq_true_iff.mp h
  obtain ⟨b, h⟩ := Bool.and_eq_true_iff.mp h
  exact (Bool.and_eq_true_iff.mp h).2
theorem dpAll_app {K : PySem.W.Frag} {H : Hp} {us : List V} {es : List PyData} : ∀ {vs : List V} {ds : List PyData}, DpAll K H vs ds → DpAll K H us es → DpAll K H (vs ++ us) (ds ++ es)
  | _, _, .nil, h => h
  | _, _, .cons a t, h => .cons a (dpAll_app t h)
theorem not_true {b : Bool} (h : (!b) = true) : b = false := by simpa using h
end CK

set_option Elab.async false
set_option linter.all false
set_option maxRecDepth 100000
set_option maxHeartbeats 2000000
/-! x or y by truth, within a comprehension -/
namespace CK
open PySem PySem.Spec PyProof.Rows L2
theorem pe_orTK {X : Cx} {a b : Expr} {ta tb : TE} {rest : List Expr} {pos : Pos} {K : PySem.W.Frag} (hK : X.K = K) (ha : PE X a ta) (hb : PE X (.BoolOp .Or (b :: rest) pos) tb) : PE X (.BoolOp .Or (a :: b :: rest) pos) (tOrT K ta tb) := hK ▸ pe_orT ha hb
end CK

set_option Elab.async false
set_option linter.all false
set_option maxRecDepth 100000
set_option maxHeartbeats 4000000
/-! sorted of any data; sorted(.., key=len) of texts -/
namespace CK
open PySem PySem.Spec PyProof.Rows L2 PySem.W
theorem vals_each : ∀ {xs : List V} {us : List Value}, Vals xs us → EachIs (fun u x => RelV x u) us xs
  | _, _, .nil => .nil
  | _, _, .cons r t => .cons r (vals_each t)
theorem each_vals : ∀ {us : List Value} {xs : List V}, EachIs (fun u x => RelV x u) us xs → Vals xs us
  | _, _, .nil => .nil
  | _, _, .cons r t => .cons r (each_vals t)
section
variable {X : Cx}
/-- sorted(xs), a list of data -/
theorem cr_sortedA (hu : X.A.units + 64 < cLine) : CallR X (.builtin "sorted") (fun vs H Q => ∃ (a : Addr) (xs : List V) (d : V → PyData), vs = [V.ref a] ∧ SqL X.K H a xs ∧ (∀ v ∈ xs, Dp X.K H v (d v)) ∧ AllAlike (xs.map d) ∧ Sortable (xs.map d) ∧ (∀ v ∈ xs, (d v).depth ≤ 60) ∧
    ∀ p, H p = none → Q (.ref p) (upd H p (.lst (xs.mergeSort (dataLe false d))))) := by
  intro pins s σ H vs us Q I r h
  obtain ⟨a, xs, d, rfl, hs, hd, hal, hk, hb, q⟩ := h
  obtain ⟨its, rv, hl, hz⟩ := I.list hs
  rw [Vals.ref1 r]
  have e := vals_each rv
  have er : EachIs (fun v b => ∃ as, Reads s.heap v (d b) as) its xs := by
    have key : ∀ {us : List Value} {ys : List V}, EachIs (fun u x => RelV x u) us ys → (∀ v ∈ ys, v ∈ xs) → EachIs (fun v b => ∃ as, Reads s.heap v (d b) as) us ys := fun h => by
      induction h with
      | nil => intro _; exact .nil
      | cons hr _ ih => intro hm; exact .cons (Dp.reads I _ _ _ (hd _ (hm _ List.mem_cons_self)) hr) (ih fun v hv => hm v (List.mem_cons_of_mem _ hv))
    exact key e fun _ h => h
  refine sorted_data (l := a) (vs := its) (bs := xs) (enc := d) hl.isList e er hal hk hz (fun b hb' => by have := hb b hb'; omega) fun out ho eo => ?_
  obtain ⟨ep, he'⟩ := PyProof.Rows.sortedAll_at s.heap its out.toArray
  have hlen : (xs.mergeSort (dataLe false d)).length ≤ sizeLine := by
    rw [List.length_mergeSort]
    exact hz
  exact ⟨.ref _, upd H (s.heap.objs.size + 1) (.lst (xs.mergeSort (dataLe false d))), I.laid (t' := s.toks) (fun _ _ => PyProof.Rows.sortedAll_old) (Nat.le_succ _) ⟨hlen, out, ep, each_vals eo, he'⟩, rfl, q _ (I.hok.fresh (Nat.le_succ _))⟩
/-- a text's data -/
def dV : V → PyData
  | .str x => .str x
  | _ => .none
theorem alike_strs (zs : List Str) : AllAlike ((zs.map V.str).map dV) := fun d hd d' hd' => by
  rw [List.map_map] at hd hd'
  obtain ⟨x, _, rfl⟩ := List.mem_map.mp hd
  obtain ⟨y, _, rfl⟩ := List.mem_map.mp hd'
  rfl
theorem sortable_strs (zs : List Str) : Sortable ((zs.map V.str).map dV) := .inr fun d hd => by
  rw [List.map_map] at hd
  obtain ⟨x, _, rfl⟩ := List.mem_map.mp hd
  exact ⟨fun h => (nomatch h), fun _ h => (nomatch h)⟩
/-- the order of texts -/
def leS (x y : Str) : Bool := decide (x.cps.toList ≤ y.cps.toList)
theorem sort_strs (zs : List Str) : (zs.map V.str).mergeSort (dataLe false dV) = (zs.mergeSort leS).map V.str := by
  refine (sort_maps V.str fun a _ b _ => ?_).symm
  have := congrFun (congrFun (dataLe_str (β := Str) fun x => x) a) b
  show _ = dataLe false dV (V.str a) (V.str b)
  exact this.symm
/-- sorted(d), a dict whose keys are texts -/
theorem call_sortedDA (hcalm : X.calm = true) (hu : X.A.units + 64 < cLine) : CallR X (.builtin "sorted") (fun xs H Q => ∃ (a : Addr) (kvs : List (Key × V)) (ks : List Str), xs = [.ref a] ∧ Rd H a (.dK kvs) ∧ kvs.map (·.1) = ks.map Sum.inr ∧ ks.length ≤ sizeLine ∧
    ∀ p, H p = none → Q (.ref p) (upd H p (.lst ((ks.mergeSort leS).map V.str)))) := by
  intro pins s σ H xs us Q I r q
  obtain ⟨a, kvs, ks, ex, hd, hks, h64, q⟩ := q
  subst ex
  obtain ⟨u, eu, rx⟩ := vals1 r
  subst eu
  cases rx
  obtain ⟨z, lo, vs, rel, dd⟩ := dk_rd I.hok hd
  obtain ⟨ep, hat⟩ := dd.dictAt
  have hkeys : vs.map (·.1) = ks.map Sum.inr := rel.keys.symm.trans hks
  have hl : vs.length = ks.length := by
    have e := congrArg List.length hkeys
    rw [List.length_map, List.length_map] at e
    exact e
  have h16 : vs.length ≤ sizeLine := by rw [hl]; exact h64
  refine Calls.call_function_entry PyProof.Rows.kind_sorted PyProof.Rows.plain_sorted PyProof.Rows.entry_sorted (PyProof.Rows.args_sorted1 _) ?_
  unfold Builtin.«sorted»
  refine wpAny_bind (m := checkCount "sorted" 1 1 _) (wpAny_pure ?_)
  refine wpAny_bind (PySem.W.kdu_collect (A := X.A.in1) (PySem.W.kdl_dict (knd := mixKind X.prog X.w) (kvs := vs) (ep := ep) lo) (I.ok.hd hcalm) hat h16 fun h' tk acc hk hacc => ?_)
  have hal : acc.toList.length = ks.length := by rw [Array.length_toList, hacc.1, hl]
  have hS : StrsAre acc.toList ks := strs_at hal fun j v e => by
    obtain ⟨k, x, e1, e2⟩ := hacc.2 j v (by rw [← Array.getElem?_toList]; exact e)
    have e3 : (vs.map (·.1))[j]? = some k := by rw [List.getElem?_map, e1]; all_goals rfl
    rw [hkeys, List.getElem?_map] at e3
    cases e4 : ks[j]? with
    | none => rw [e4] at e3; cases e3
    | some y =>
      rw [e4] at e3
      have e5 : Sum.inr y = k := Option.some.inj e3
      subst e5
      obtain ⟨t, ev⟩ := Value.isStrOf_shape (x := y) (v := v) e2
      exact ⟨y, t, rfl, ev⟩
  have I1 : Inv X pins σ H { s with heap := h', toks := tk } := I.kept hk
  refine wpAny_bind (wpAny_newList ?_ (by rw [hal]; exact h64))
  have hoL : (h'.push (seqObj "list" acc.toList.toArray 0)).get? h'.objs.size = some (seqObj "list" acc.toList.toArray 0) := Heap.get?_push_size _ rfl
  show wpAny _ _ _ _ _ { s with heap := h'.push (seqObj "list" acc.toList.toArray 0), toks := tk }
  have ev : EachIs (fun u x => RelV x u) acc.toList (ks.map V.str) := vals_each (vals_of_strs hS)
  have er : ∀ (g : Heap), EachIs (fun v b => ∃ as, Reads g v (dV b) as ∧ h'.objs.size ∉ as) acc.toList (ks.map V.str) := fun g => by
    have key : ∀ {us : List Value} {ys : List Str}, StrsAre us ys → EachIs (fun v b => ∃ as, Reads g v (dV b) as ∧ h'.objs.size ∉ as) us (ys.map V.str) := fun h => by
      induction h with
      | nil => exact .nil
      | cons x t _ ih => exact .cons ⟨[], .str _ _, List.not_mem_nil⟩ ih
    exact key hS
  refine wpAny_bind (wpAny_holding (list_sort_data (s := { s with heap := h'.push (seqObj "list" acc.toList.toArray 0), toks := tk }) (enc := dV) hoL ev (er _) (alike_strs ks) (sortable_strs ks) (by rw [List.length_map]; exact h64) (fun b hb => ?_) fun out ho eo => ?_))
  · obtain ⟨x, _, rfl⟩ := List.mem_map.mp hb
    have e1 : (dV (V.str x)).depth = 0 := rfl
    have e2 : X.A.in1.units = X.A.units + 1 := rfl
    omega
  rw [sort_strs] at eo
  obtain ⟨e', he'⟩ := PyProof.Rows.sortedHeap_at (vs := acc.toList) (out := out.toArray) hoL
  have hlen : ((ks.mergeSort leS).map V.str).length ≤ sizeLine := by
    rw [List.length_map, List.length_mergeSort]
    exact h64
  refine wpAny_pure ⟨_, rfl, .ref h'.objs.size, upd H h'.objs.size (.lst ((ks.mergeSort leS).map V.str)), I1.laid (t' := tk) (fun b u e => ?_) (Nat.le_refl _)
    (show ObjOk X.prog X.w _ _ _ (.lst ((ks.mergeSort leS).map V.str)) from ⟨hlen, out, e', each_vals eo, he'⟩), rfl, q _ (I1.hok.fresh (Nat.le_refl _))⟩
  have hb : b < h'.objs.size := Heap.lt_size e
  rw [PyProof.Rows.sortedHeap_old (Nat.ne_of_lt hb) (by rw [size_push']; exact Nat.lt_succ_of_lt hb)]
  exact Heap.get?_push_of_some _ e
/-- the order by length -/
def leN (x y : Str) : Bool := decide (x.length ≤ y.length)
def lV : V → PyData
  | .str x => .int (x.length : Nat)
  | _ => .none
theorem sort_lens (zs : List Str) : (zs.map V.str).mergeSort (dataLe false lV) = (zs.mergeSort leN).map V.str := by
  refine (sort_maps V.str fun a _ b _ => ?_).symm
  have := congrFun (congrFun (dataLe_int (β := Str) fun x => (x.length : Nat)) a) b
  show _ = dataLe false lV (V.str a) (V.str b)
  refine Eq.trans ?_ this.symm
  exact decide_eq_decide.mpr ⟨fun h => by omega, fun h => by omega⟩
def rSortedLen (K : PySem.W.Frag) : List V → Hp → VK → Prop := fun vs H Q => ∃ (a : Addr) (zs : List Str), vs = [V.ref a] ∧ SqL K H a (zs.map V.str) ∧ (∀ z ∈ zs, z.length ≤ sizeLine) ∧ ∀ p, H p = none → Q (.ref p) (upd H p (.lst ((zs.mergeSort leN).map V.str)))
theorem pe_sortedLen {x y : Str} {p lp kp pos : Pos} {e : Expr} {t : TA} (hu : X.A.units + 64 < cLine) (hg : Gl X x) (hm : X.mg x = none) (hv : bootBuiltins x = some (.builtin "sorted")) (hg' : Gl X y) (hm' : X.mg y = none) (hv' : bootBuiltins y = some (.builtin "len")) (ha : PA X [e] t)
    (hn : x ≠ "__name__" := by decide) (hdb : (x == ("__debug__" : Str)) = false := by decide) (hn' : y ≠ "__name__" := by decide) (hdb' : (y == ("__debug__" : Str)) = false := by decide)
    (he : backTo pos (starEach [e] X.env) = (false, eval e X.env) :: backTo pos (starEach [] X.env) := by rfl) (hpl : (backTo pos (starEach [e] X.env)).any (·.1) = false := by rfl) :
    PE X (.Call (.Name x p) [e] [⟨some "key", .Name y lp, kp⟩] pos) (fun σ H Q => t σ H fun vs H1 => rSortedLen X.K vs H1 Q) := by
  refine ⟨fun pins s σ H Q I h => ?_⟩
  refine wpAny_Call_Name_kw (ld_blt I hg hm hv ?_ hn hdb)
  refine PyProof.Rows.callWith_kw (thn (ha.run pos pins s σ H _ I h) fun us s1 ⟨vs, H1, I1, r1, q1⟩ => ?_) he hpl rfl rfl
  show wpAny _ _ (evalAll ((do let v ← eval (.Name y lp) X.env; standAt pos; pure v) :: [])) _ _ s1
  refine wpAny_evalAll_cons (wpAny_bind (ld_blt I1 hg' hm' hv' (wpAny_bind (wpAny_standAt (wpAny_pure ?_))) hn' hdb'))
  refine wpAny_evalAll_nil ?_
  obtain ⟨a, zs, rfl, hs, hz, q⟩ := q1
  obtain ⟨its, rv, hl, hsz⟩ := I1.list hs
  rw [Vals.ref1 r1]
  show wpAny _ _ (call (.builtin "sorted") [.ref a] [(Str.ofString "key", .builtin "len")]) _ _ s1
  have e := vals_each rv
  refine sorted_key_data (l := a) (vs := its) (bs := zs.map V.str) lV hl.isList e (fun d hd d' hd' => ?_) (.inr fun d hd => ?_) hsz (fun b hb => ?_) (PyProof.Rows.ksk_s1 _ _) (fun _ => PyProof.Rows.ksk_l1 _ _) (fun x => PyProof.Rows.ksk_t4 _ _) (fun v x hr hx h' tk _ => ?_) fun out c h' tk k1 k2 k3 ho eo => ?_
  · rw [List.map_map] at hd hd'
    obtain ⟨x, _, rfl⟩ := List.mem_map.mp hd
    obtain ⟨y, _, rfl⟩ := List.mem_map.mp hd'
    rfl
  · rw [List.map_map] at hd
    obtain ⟨x, _, rfl⟩ := List.mem_map.mp hd
    exact ⟨fun h => (nomatch h), fun _ h => (nomatch h)⟩
  · obtain ⟨z, _, rfl⟩ := List.mem_map.mp hb
    have e1 : (lV (V.str z)).depth = 0 := rfl
    omega
  · obtain ⟨z, hz', rfl⟩ := List.mem_map.mp hx
    obtain ⟨t', rfl⟩ := hr
    have hn := line63
    have := hz z hz'
    exact len_str (by omega) ⟨_, _, rfl, fun _ _ e => e, .int _ _⟩
  · rw [sort_lens] at eo
    have hlen : ((zs.mergeSort leN).map V.str).length ≤ sizeLine := by
      rw [List.length_map, List.length_mergeSort]
      rw [List.length_map] at hsz
      exact hsz
    exact ⟨.ref _, upd H1 (s1.heap.objs.size + 1) (.lst ((zs.mergeSort leN).map V.str)), I1.laid (t' := tk) k1 (Nat.le_succ _) ⟨hlen, out, c, each_vals eo, k3⟩, rfl, q _ (I1.hok.fresh (Nat.le_succ _))⟩
end
end CK

set_option Elab.async false
set_option linter.all false
set_option maxRecDepth 100000
set_option maxHeartbeats 4000000
/-! max of a tuple of numbers; max(list, default=number) -/
namespace CK
open PySem PySem.Spec PyProof.Rows L2 PySem.W
theorem args_max_default (a d : Value) : argsOk "max" ⟨[a], [(Str.ofString "default", d)]⟩ := by unfold argsOk; kernel_rfl
section
variable {prog : Program} {w : World} {A : Around} {R : Result → Shared → Prop} {I : Addr} {fp wr : List Addr} {n : Nat} {P : Nat → Value → Prop} {St : Nat → Heap → Prop} {d : Value}
theorem max_loopD (W : Walks prog w A.in1 I fp wr n P St) (bt : Nat → Nat → Bool) (hcmp : CmpOf prog w A.in1 .Gt P bt) (S : Addr) (hSf : S ∉ fp) :
    ∀ (k j : Nat) (s : Shared) (vb : Value) (c : Nat), n - (j + 1) = k → j + 1 ≤ n → St (j + 1) s.heap → P (argBest bt j) vb →
    s.heap.get? S = some { cls := .type "list", dict := none, data := .seq #[vb, vb] c, slots := #[] } →
    (∀ v h' tk, P (argBest bt (n - 1)) v → (∀ b o, b ∉ wr → b ≠ S → s.heap.get? b = some o → h'.get? b = some o) → R (.ok (.ret v)) { s with heap := h', toks := tk }) →
    codeAny (model prog w) A (.builtin "max.loop" ⟨[.ref I, .none, .ref S], [(Str.ofString "default", d)]⟩) R s := by
  have hSw : S ∉ wr := fun h => hSf (W.sub _ h)
  have hname : (toString "max" ++ toString ".loop" : String) = "max.loop" := by decide
  intro k
  induction k with
  | zero =>
    intro j s vb c hk hj hst hPb hS hR
    have hin : j + 1 = n := by omega
    refine codeAny_builtin PySem.F.entry_max_loop ?_
    rw [Around.under_plainId PySem.F.plain_max_loop _]
    show wpAny _ A.in1 (seqItems? (.ref S) >>= _) _ _ s
    refine wpAny_bind (wpAny_seqItems hS rfl ?_)
    show wpAny _ A.in1 (tryCatch (pyNext (.ref I)) _ >>= _) _ _ s
    refine wpAny_bind (wpAny_tryCatch (W.done s _ _ (hin ▸ hst) fun h' tk hk' => ?_))
    have hS' := hk' S _ hSw hS
    show wpAny _ A.in1 (updateSeq S (fun _ => #[]) >>= _) _ _ _
    refine wpAny_bind ?_
    refine wpAny_updateSeq hS' rfl (wpAny_bind (wpAny_letGo (wpAny_pure ?_)))
    refine hR vb _ tk (by rw [← hin]; exact hPb) fun b o hbw hbS e => (Heap.get?_update_other _ _ (Ne.symm hbS)).trans (hk' b o hbw e)
  | succ k ih =>
    intro j s vb c hk hj hst hPb hS hR
    have hlt : j + 1 < n := by omega
    refine codeAny_builtin PySem.F.entry_max_loop ?_
    rw [Around.under_plainId PySem.F.plain_max_loop _]
    show wpAny _ A.in1 (seqItems? (.ref S) >>= _) _ _ s
    refine wpAny_bind (wpAny_seqItems hS rfl ?_)
    show wpAny _ A.in1 (tryCatch (pyNext (.ref I)) _ >>= _) _ _ s
    refine wpAny_bind (wpAny_tryCatch (W.item (j + 1) s _ _ hlt hst fun v h' tk hP hst' hk' => ?_))
    have hS' := hk' S _ hSw hS
    show wpAny _ A.in1 (tryCatch (holding [v, v] (richCompare .Gt v vb >>= _)) _ >>= _) _ _ _
    refine wpAny_bind (wpAny_tryCatch (wpAny_holding (wpAny_bind (hcmp (j + 1) (argBest bt j) v vb _ _ _ hP hPb ?_))))
    refine wpAny_bind (wpAny_holding (wpAny_truthy_bool ?_))
    refine wpAny_bind (wpAny_letGo (wpAny_pure ?_))
    cases hb : bt (j + 1) (argBest bt j) with
    | true =>
      simp only [if_true]
      refine wpAny_bind ?_
      refine wpAny_updateSeq hS' rfl (wpAny_bind (wpAny_letGo ?_))
      rw [hname]
      refine wpAny_pure ⟨plainId_quiet PySem.F.plain_max_loop _, ih (j + 1) _ v _ (by omega) hlt (W.frame _ _ _ hst' fun b hbf o e => ?_) (by simp only [argBest, hb, if_true]; exact hP) (Heap.get?_update_self _ hS' rfl)
        fun v' h'' tk'' hP' hk'' => ?_⟩
      · exact (Heap.get?_update_other _ _ (fun h : S = b => hSf (by rw [h]; exact hbf))).trans e
      · exact hR v' h'' tk'' hP' fun b o hbw hbS e => hk'' b o hbw hbS ((Heap.get?_update_other _ _ (Ne.symm hbS)).trans (hk' b o hbw e))
    | false =>
      simp only [Bool.false_eq_true, if_false]
      refine wpAny_bind (wpAny_letGo ?_)
      rw [hname]
      refine wpAny_pure ⟨plainId_quiet PySem.F.plain_max_loop _, ih (j + 1) _ vb c (by omega) hlt hst' (by simp only [argBest, hb, Bool.false_eq_true, if_false]; exact hPb) hS' fun v' h'' tk'' hP' hk'' => ?_⟩
      exact hR v' h'' tk'' hP' fun b o hbw hbS e => hk'' b o hbw hbS (hk' b o hbw e)
theorem max_firstD (W : Walks prog w A.in1 I fp wr n P St) (bt : Nat → Nat → Bool) (hcmp : CmpOf prog w A.in1 .Gt P bt) (S : Addr) (hSf : S ∉ fp) {s : Shared} {c : Nat} (hst : St 0 s.heap)
    (hS : s.heap.get? S = some { cls := .type "list", dict := none, data := .seq #[] c, slots := #[] })
    (h0 : n = 0 → ∀ h' tk, (∀ b o, b ∉ wr → b ≠ S → s.heap.get? b = some o → h'.get? b = some o) → R (.ok (.ret d)) { s with heap := h', toks := tk })
    (hR : 0 < n → ∀ v h' tk, P (argBest bt (n - 1)) v → (∀ b o, b ∉ wr → b ≠ S → s.heap.get? b = some o → h'.get? b = some o) → R (.ok (.ret v)) { s with heap := h', toks := tk }) :
    codeAny (model prog w) A (.builtin "max.loop" ⟨[.ref I, .none, .ref S], [(Str.ofString "default", d)]⟩) R s := by
  have hSw : S ∉ wr := fun h => hSf (W.sub _ h)
  have hname : (toString "max" ++ toString ".loop" : String) = "max.loop" := by decide
  refine codeAny_builtin PySem.F.entry_max_loop ?_
  rw [Around.under_plainId PySem.F.plain_max_loop _]
  show wpAny _ A.in1 (seqItems? (.ref S) >>= _) _ _ s
  refine wpAny_bind (wpAny_seqItems hS rfl ?_)
  show wpAny _ A.in1 (tryCatch (pyNext (.ref I)) _ >>= _) _ _ s
  rcases Nat.eq_zero_or_pos n with hn | hn
  · refine wpAny_bind (wpAny_tryCatch (W.done s _ _ (hn ▸ hst) fun h' tk hk' => ?_))
    show wpAny _ A.in1 (rule _ >>= _) _ _ _
    refine wpAny_bind (wpAny_rule ?_)
    exact wpAny_pure (h0 hn h' tk fun b o hbw _ e => hk' b o hbw e)
  · refine wpAny_bind (wpAny_tryCatch (W.item 0 s _ _ hn hst fun v h' tk hP hst' hk' => ?_))
    have hS' := hk' S _ hSw hS
    show wpAny _ A.in1 (updateSeq S (fun _ => #[v, v]) >>= _) _ _ _
    refine wpAny_bind ?_
    refine wpAny_updateSeq hS' rfl ?_
    rw [hname]
    refine wpAny_pure ⟨plainId_quiet PySem.F.plain_max_loop _, max_loopD W bt hcmp S hSf _ 0 _ v _ rfl hn (W.frame _ _ _ hst' fun b hbf o e => ?_) hP (Heap.get?_update_self _ hS' rfl) fun v' h'' tk'' hP' hk'' => ?_⟩
    · exact (Heap.get?_update_other _ _ (fun h : S = b => hSf (by rw [h]; exact hbf))).trans e
    · exact hR hn v' h'' tk'' hP' fun b o hbw hbS e => hk'' b o hbw hbS ((Heap.get?_update_other _ _ (Ne.symm hbS)).trans (hk' b o hbw e))
end
section
variable {prog : Program} {w : World} {A : Around} {E : Value → Shared → Prop} {s : Shared}
theorem call_max_walkD {x d : Value} {Q : Value → Shared → Prop}
    (h : wpAny (model prog w) A.in1 (pyIter x) (fun it s₂ => ∃ I fp wr n P St bt, it = .ref I ∧ Walks prog w A.in1 I fp wr n P St ∧ St 0 s₂.heap ∧ (∀ b ∈ fp, b < s₂.heap.objs.size) ∧ CmpOf prog w A.in1 .Gt P bt ∧
      (n = 0 → ∀ h' tk, (∀ b o, b ∉ wr → s₂.heap.get? b = some o → h'.get? b = some o) → Q d { s₂ with heap := h', toks := tk }) ∧
      (0 < n → ∀ v h' tk, P (argBest bt (n - 1)) v → (∀ b o, b ∉ wr → s₂.heap.get? b = some o → h'.get? b = some o) → Q v { s₂ with heap := h', toks := tk })) E s) :
    wpAny (model prog w) A (call (.builtin "max") [x] [(Str.ofString "default", d)]) Q E s := by
  have hname : (toString "max" ++ toString ".loop" : String) = "max.loop" := by decide
  refine PyProof.Rows.kmk_tree PySem.F.kind_max PySem.F.plain_max PySem.F.entry_max (args_max_default _ _) ?_
  show wpAny _ A.in1 (Builtin.Builtins.bindParams "max" ["key", "default"] 0 ⟨[], [(Str.ofString "default", d)]⟩ >>= _) _ _ s
  refine wpAny_bind (wpAny_of_eq (show Builtin.Builtins.bindParams "max" ["key", "default"] 0 ⟨[], [(Str.ofString "default", d)]⟩ = pure [none, some d] from rfl) ?_)
  refine wpAny_bind (wpAny_pure ?_)
  refine wpAny_bind (wpAny_mono h (fun it s₂ h₂ => ?_) fun _ _ e => e)
  obtain ⟨I, fp, wr, n, P, St, bt, rfl, W, hst, hfp, hcmp, h0, hQ⟩ := h₂
  refine wpAny_bind (wpAny_newObj_type ?_)
  have hSf : s₂.heap.objs.size ∉ fp := fun hm => Nat.lt_irrefl _ (hfp _ hm)
  rw [hname]
  refine wpAny_pure ⟨plainId_quiet PySem.F.plain_max_loop _, max_firstD W bt hcmp s₂.heap.objs.size hSf (W.frame _ _ _ hst fun b _ o e => Heap.get?_push_of_some _ e) (Heap.get?_push_size _ rfl) (fun hn h' tk hk => ?_) fun hn v h' tk hP hk => ?_⟩
  · exact h0 hn h' tk fun b o hbw e => hk b o hbw (Nat.ne_of_lt (Heap.lt_size e)) (Heap.get?_push_of_some _ e)
  · exact hQ hn v h' tk hP fun b o hbw e => hk b o hbw (Nat.ne_of_lt (Heap.lt_size e)) (Heap.get?_push_of_some _ e)
end
/-- the greatest of numbers, 0 where there is none -/
def mx : List Nat → Nat
  | [] => 0
  | a :: l => max a (mx l)
theorem mx_le {n : Nat} : ∀ {l : List Nat}, (∀ x ∈ l, x ≤ n) → mx l ≤ n
  | [], _ => Nat.zero_le _
  | a :: l, h => by
    have := mx_le fun x hx => h x (List.mem_cons_of_mem _ hx)
    have := h a List.mem_cons_self
    rw [mx]
    omega
theorem le_mx {x : Nat} : ∀ {l : List Nat}, x ∈ l → x ≤ mx l
  | a :: l, h => by
    rw [mx]
    rcases List.mem_cons.mp h with rfl | h
    · omega
    · have := le_mx h
      omega
theorem mx_is {n : Nat} {l : List Nat} (m : n ∈ l) (h : ∀ x ∈ l, x ≤ n) : mx l = n := Nat.le_antisymm (mx_le h) (le_mx m)
theorem best_is {its : List Value} {ns : List Int} {xs : Array (Int × Tok)} {v : Value} (hn : (xs.toList.map (·.1)) = ns) (hsz : 0 < xs.size) (hv : (intItems xs)[argBest (fun i j => decide (numAt xs i > numAt xs j)) (xs.size - 1)]? = some v) : ∃ M t, v = .int M t ∧ M ∈ ns ∧ ∀ a ∈ ns, a ≤ M := by
  subst hn
  obtain ⟨t, rfl⟩ := intItems_at hv
  obtain ⟨h1, h2⟩ := argBest_gt (numAt xs) (xs.size - 1)
  refine ⟨_, t, rfl, ?_, fun a ha => ?_⟩
  · rw [numAt_eq]; exact PySem.getD_mem (by rw [List.length_map, Array.length_toList]; omega)
  · obtain ⟨j, hj, rfl⟩ := mem_getD ha
    rw [List.length_map, Array.length_toList] at hj
    rw [← numAt_eq]; exact h2 j (by omega)
theorem big_nat {M : Int} {ns : List Nat} (hm : M ∈ ns.map fun n : Nat => ((n : Nat) : Int)) (hle : ∀ a ∈ ns.map fun n : Nat => ((n : Nat) : Int), a ≤ M) : M = ((mx ns : Nat) : Int) := by
  obtain ⟨n, hn, rfl⟩ := List.mem_map.mp hm
  rw [mx_is hn fun x hx => by have := hle _ (List.mem_map.mpr ⟨x, hx, rfl⟩); omega]
section
variable {prog : Program} {w : World} {A : Around} {E : Value → Shared → Prop} {s : Shared} {l : Addr} {xs : Array (Int × Tok)}
theorem iter_tup {Q : Value → Shared → Prop} (hl : s.heap.IsTuple l (intItems xs)) (h : Q (.ref s.heap.objs.size) { s with heap := s.heap.push { cls := .type "tuple_iterator", data := .fields #[.ref l, .int 0 0] } }) : wpAny (model prog w) A (pyIter (.ref l)) Q E s := wpAny_pyIter_tuple hl h
theorem max_tupG {Q : Value → Shared → Prop} (hh : A.handled = none) (hl : s.heap.IsTuple l (intItems xs)) (hne : 0 < xs.size)
    (h : ∀ v h' tk, (intItems xs)[argBest (fun i j => decide (numAt xs i > numAt xs j)) (xs.size - 1)]? = some v → (∀ b o, s.heap.get? b = some o → h'.get? b = some o) → Q v { s with heap := h', toks := tk }) :
    wpAny (model prog w) A (call (.builtin "max") [.ref l]) Q E s := by
  have hlt : l < s.heap.objs.size := by obtain ⟨_, e, _⟩ := hl; exact Heap.lt_size e
  refine call_max_walk (wpAny_pyIter_tuple hl ?_)
  refine ⟨_, _, _, _, _, _, _, rfl, Walks.tuple (A := A.in1) hh _ l (Nat.ne_of_lt hlt) (intItems xs), ⟨⟨_, Heap.get?_push_size _ rfl, rfl, rfl⟩, hl.push _⟩, fun b hb => ?_, by simpa [intItems] using hne, CmpOf.ints_gt (numAt xs) (fun _ _ => intItems_at), fun v h' tk hP hk => ?_⟩
  · show b < (s.heap.push _).objs.size
    rw [Heap.size_push]
    rcases List.mem_cons.mp hb with rfl | hb
    · exact Nat.lt_succ_self _
    · rcases List.mem_cons.mp hb with rfl | hb
      · exact Nat.lt_succ_of_lt hlt
      · cases hb
  · refine h v h' tk (by simpa [intItems] using hP) fun b o e => ?_
    refine hk b o (fun hm => ?_) (Heap.get?_push_of_some _ e)
    have := List.mem_singleton.mp hm
    have hb := Heap.lt_size e
    rw [this] at hb
    exact absurd hb (Nat.lt_irrefl _)
theorem max_listD {d : Value} {Q : Value → Shared → Prop} (hh : A.handled = none) (hl : s.heap.IsList l (intItems xs))
    (h0 : xs.size = 0 → ∀ h' tk, (∀ b o, s.heap.get? b = some o → h'.get? b = some o) → Q d { s with heap := h', toks := tk })
    (h : 0 < xs.size → ∀ v h' tk, (intItems xs)[argBest (fun i j => decide (numAt xs i > numAt xs j)) (xs.size - 1)]? = some v → (∀ b o, s.heap.get? b = some o → h'.get? b = some o) → Q v { s with heap := h', toks := tk }) :
    wpAny (model prog w) A (call (.builtin "max") [.ref l] [(Str.ofString "default", d)]) Q E s := by
  refine call_max_walkD (iter_intList hl fun s₂ e st hfp hlI => ?_)
  subst e
  refine ⟨_, _, _, _, _, _, _, rfl, Walks.list (A := A.in1) hh _ l hlI (intItems xs), st, hfp, CmpOf.ints_gt (numAt xs) (fun _ _ => intItems_at), fun hn h' tk hk => ?_, fun hn v h' tk hP hk => ?_⟩
  · exact h0 (by simpa [intItems] using hn) h' tk (old_kept hk)
  · exact h (by simpa [intItems] using hn) v h' tk (by simpa [intItems] using hP) (old_kept hk)
end
section
variable {X : Cx}
/-- max of a tuple of numbers -/
theorem cr_maxT (hc : X.calm = true) : CallR X (.builtin "max") (fun vs H Q => ∃ (a : Addr) (ns : List Nat), vs = [V.ref a] ∧ H a = some (.tup (ns.map fun n : Nat => V.int (n : Nat))) ∧ 0 < ns.length ∧ Q (.int (mx ns : Nat)) H) := by
  intro pins s σ H vs us Q I r h
  obtain ⟨a, ns, rfl, ha, hne, q⟩ := h
  obtain ⟨its, rv, hl, _⟩ := I.tuple (.inl (.inl ha))
  rw [Vals.ref1 r]
  have e0 : (ns.map fun n : Nat => V.int (n : Nat)) = (ns.map fun n : Nat => ((n : Nat) : Int)).map V.int := by
    rw [List.map_map]
    rfl
  rw [e0] at rv
  have hi := rv.ints
  obtain ⟨xs, e⟩ := hi.allInts.items
  have hn : numsOf (intItems xs).toList = ns.map fun n : Nat => ((n : Nat) : Int) := by rw [← e]; exact hi.numsOf
  rw [nums_intItems] at hn
  have hl' : s.heap.IsTuple a (intItems xs) := by rw [← e]; exact hl
  have hz : 0 < xs.size := by
    have := congrArg List.length hn
    rw [List.length_map, List.length_map, Array.length_toList] at this
    omega
  refine max_tupG (I.ok.hd hc) hl' hz fun v h' tk hv hk => ?_
  obtain ⟨M, t, rfl, hm, hle⟩ := best_is (its := []) hn hz hv
  rw [big_nat hm hle]
  exact ⟨.int _, H, I.kept (t' := tk) hk, ⟨_, rfl⟩, q⟩
/-- max of a list of numbers -/
theorem cr_maxL (hc : X.calm = true) : CallR X (.builtin "max") (fun vs H Q => ∃ (a : Addr) (ns : List Nat), vs = [V.ref a] ∧ H a = some (.lst (ns.map fun n : Nat => V.int (n : Nat))) ∧ 0 < ns.length ∧ Q (.int (mx ns : Nat)) H) := by
  intro pins s σ H vs us Q I r h
  obtain ⟨a, ns, rfl, ha, hne, q⟩ := h
  refine cr_max hc pins s σ H _ us Q I r ⟨a, ns.map fun n : Nat => ((n : Nat) : Int), rfl, .inl (.inl (by rw [ha, List.map_map]; rfl)), by rw [List.length_map]; exact hne, fun m hm hle => ?_⟩
  rw [big_nat hm hle]
  exact q
/-- over a tuple, with the written part told apart -/
theorem pi_tupK {K : PySem.W.Frag} (hK : X.K = K) {tg l : Expr} {tl : TE} (hl : PE X l tl) : PI X tg l (iTup K tl) := by
  subst hK
  exact pi_tup hl
/-- n *= m -/
theorem ip_mul : PIp X .Mult (fun x y H Q => ∃ (k n : Nat), x = .int k ∧ y = .int n ∧ k < 2 ^ 1000 ∧ n < 2 ^ 1000 ∧ Q (.int ((k * n : Nat) : Int)) H) := by
  intro pins s σ H x y v u Q I r1 r2 h
  obtain ⟨k, n, e1, e2, h0, h1, q⟩ := h
  subst e1; subst e2
  obtain ⟨t, rfl⟩ := r1
  obtain ⟨t', rfl⟩ := r2
  rw [Int.natCast_mul] at q
  exact PyProof.Rows.imul_int ⟨.int _, H, I.tok _, ⟨_, rfl⟩, q⟩ (wide_mul (i := (k : Int)) (j := (n : Int)) (a := 1000) (b := 1000) h0 h1 (by decide) (by decide) (by decide)).ok
/-- max(list, default=number) -/
theorem pe_maxD {x : Str} {p kp pos : Pos} {e cst : Expr} {t : TA} {tc : TE} (hcalm : X.calm = true) (hg : Gl X x) (hm : X.mg x = none) (hv : bootBuiltins x = some (.builtin "max")) (ha : PA X [e] t) (hcst : PE X cst tc)
    (hn : x ≠ "__name__" := by decide) (hdb : (x == ("__debug__" : Str)) = false := by decide)
    (he : backTo pos (starEach [e] X.env) = (false, eval e X.env) :: backTo pos (starEach [] X.env) := by rfl) (hpl : (backTo pos (starEach [e] X.env)).any (·.1) = false := by rfl) :
    PE X (.Call (.Name x p) [e] [⟨some "default", cst, kp⟩] pos) (fun σ H Q => t σ H fun vs H1 => tc σ H1 fun d H2 => ∃ (a : Addr) (ns : List Nat), vs = [V.ref a] ∧ H2 a = some (.lst (ns.map fun n : Nat => V.int (n : Nat))) ∧ d = .int 0 ∧ Q (.int (mx ns : Nat)) H2) := by
  refine ⟨fun pins s σ H Q I h => ?_⟩
  refine wpAny_Call_Name_kw (ld_blt I hg hm hv ?_ hn hdb)
  refine PyProof.Rows.callWith_kw (thn (ha.run pos pins s σ H _ I h) fun us s1 ⟨vs, H1, I1, r1, q1⟩ => ?_) he hpl rfl rfl
  show wpAny _ _ (evalAll ((do let v ← eval cst X.env; standAt pos; pure v) :: [])) _ _ s1
  refine wpAny_evalAll_cons (wpAny_bind (wpAny_mono (hcst.run pins s1 σ H1 _ I1 q1) (fun dv s2 h2 => ?_) fun _ _ e => e))
  obtain ⟨d, H2, I2, rd, q2⟩ := h2
  refine wpAny_bind (wpAny_standAt (wpAny_pure ?_))
  refine wpAny_evalAll_nil ?_
  obtain ⟨a, ns, rfl, hs, rfl, q⟩ := q2
  obtain ⟨td, rfl⟩ := rd
  rw [Vals.ref1 r1]
  show wpAny _ _ (call (.builtin "max") [.ref a] [(Str.ofString "default", .int 0 td)]) _ _ s2
  obtain ⟨its, rv, hl, _⟩ := I2.list (.inl (.inl hs))
  have e0 : (ns.map fun n : Nat => V.int (n : Nat)) = (ns.map fun n : Nat => ((n : Nat) : Int)).map V.int := by
    rw [List.map_map]
    rfl
  rw [e0] at rv
  have hi := rv.ints
  obtain ⟨xs, ex⟩ := hi.allInts.items
  have hn' : numsOf (intItems xs).toList = ns.map fun n : Nat => ((n : Nat) : Int) := by rw [← ex]; exact hi.numsOf
  rw [nums_intItems] at hn'
  have hl' : s2.heap.IsList a (intItems xs) := by rw [← ex]; exact hl.isList
  refine max_listD (I2.ok.hd hcalm) hl' (fun h0 h' tk hk => ?_) fun hz v h' tk hv hk => ?_
  · have en : ns = [] := List.length_eq_zero_iff.mp (by
      have := congrArg List.length hn'
      rw [List.length_map, List.length_map, Array.length_toList] at this
      omega)
    subst en
    exact ⟨.int _, H2, I2.kept (t' := tk) hk, ⟨_, rfl⟩, q⟩
  · obtain ⟨M, t', rfl, hm', hle⟩ := best_is (its := []) hn' hz hv
    rw [big_nat hm' hle] at *
    exact ⟨.int _, H2, I2.kept (t' := tk) hk, ⟨_, rfl⟩, q⟩
end
end CK

set_option Elab.async false
set_option linter.all false
/-! `in` within a comprehension -/
namespace CK
open PySem PySem.Spec PyProof.Rows L2
section
variable {X : Cx}
theorem op_notInK {K : PySem.W.Frag} (hK : X.K = K) : OpR X (compareOp .NotIn) (rIn K true) := by
  subst hK
  exact op_notIn_seq
theorem op_inK {K : PySem.W.Frag} (hK : X.K = K) : OpR X (compareOp .In) (rIn K false) := by
  subst hK
  exact op_in_seq
end
theorem in_nats (c : Nat) : ∀ xs : List Nat, inV (.int (c : Nat)) (xs.map fun n : Nat => V.int (n : Nat)) = decide (c ∈ xs)
  | [] => rfl
  | x :: xs => by
    have ih := in_nats c xs
    rw [List.map_cons]
    by_cases e : c = x
    · subst e
      rw [decide_eq_true List.mem_cons_self]
      simp [inV, eqV]
    · have : decide (c ∈ x :: xs) = decide (c ∈ xs) := decide_eq_decide.mpr (by simp [e])
      rw [this, ← ih]
      simp [inV, eqV]
      omega
theorem flat_nats (xs : List Nat) : (xs.map fun n : Nat => V.int (n : Nat)).all flatV = true := by
  rw [List.all_map]
  exact List.all_eq_true.mpr fun _ _ => rfl
/-- sorted numbers that are sorted again -/
theorem sort_again {ns : List Int} {xs : List Nat} (p : ns.Perm (xs.map fun n : Nat => ((n : Nat) : Int))) (s : ns.Pairwise (· ≤ ·)) (h : xs.Pairwise (· < ·)) : ns = xs.map fun n : Nat => ((n : Nat) : Int) := by
  refine List.Perm.eq_of_pairwise (le := (· ≤ ·)) (fun a b _ _ h1 h2 => Int.le_antisymm h1 h2) s ?_ p
  refine List.pairwise_map.mpr (h.imp fun {a b} h => ?_)
  omega
end CK

set_option Elab.async false
set_option linter.all false
set_option maxRecDepth 100000
set_option maxHeartbeats 4000000
namespace K59
open PySem PySem.Spec PyProof.Rows L2 CK
def topS (i : Nat) : Stmt := PySem.Challenge.pw_countscribe_k59_whole_parts_of_texts.main.body.getD i (.Pass ⟨0, 0, 0, 0⟩)
theorem sc_is_whole : FnScope ["value"] ["value"] (C8.fnScope (topS 10)) := C8.fnScope_by (by decide +kernel)
theorem sc_is_count : FnScope ["value"] ["value"] (C8.fnScope (topS 11)) := C8.fnScope_by (by decide +kernel)
theorem sc_is_within : FnScope ["value", "low", "high"] ["value", "low", "high"] (C8.fnScope (topS 12)) := C8.fnScope_by (by decide +kernel)
theorem sc_is_lettered : FnScope ["value", "most"] ["value", "most"] (C8.fnScope (topS 13)) := C8.fnScope_by (by decide +kernel)
theorem sc_need_within : FnScope ["value", "low", "high"] ["value", "low", "high"] (C8.fnScope (topS 14)) := C8.fnScope_by (by decide +kernel)
theorem sc_need_many : FnScope ["value"] ["value"] (C8.fnScope (topS 15)) := C8.fnScope_by (by decide +kernel)
theorem sc_is_form_for : FnScope ["many", "value", "number"] ["many", "value"] (C8.fnScope (topS 17)) := C8.fnScope_by (by decide +kernel)
theorem sc_form_value : FnScope ["form", "point", "number", "count"] ["form", "point"] (C8.fnScope (topS 18)) := C8.fnScope_by (by decide +kernel)
theorem sc_form_sum : FnScope ["one", "other", "left", "right"] ["one", "other"] (C8.fnScope (topS 19)) := C8.fnScope_by (by decide +kernel)
theorem sc_form_times : FnScope ["number", "form", "own"] ["number", "form"] (C8.fnScope (topS 20)) := C8.fnScope_by (by decide +kernel)
theorem sc_turned_word : FnScope ["word", "by", "at"] ["word", "by"] (C8.fnScope (topS 22)) := C8.fnScope_by (by decide +kernel)
theorem sc_stretch : FnScope ["word", "start", "size", "at"] ["word", "start", "size"] (C8.fnScope (topS 23)) := C8.fnScope_by (by decide +kernel)
theorem sc_alike_ahead : FnScope ["one", "other", "low", "high", "middle"] ["one", "other"] (C8.fnScope (topS 24)) := C8.fnScope_by (by decide +kernel)
theorem sc_alike_behind : FnScope ["one", "other"] ["one", "other"] (C8.fnScope (topS 25)) := C8.fnScope_by (by decide +kernel)
theorem sc_border_sizes : FnScope ["word", "sizes", "size", "at"] ["word"] (C8.fnScope (topS 26)) := C8.fnScope_by (by decide +kernel)
theorem sc_root_size : FnScope ["word", "step"] ["word"] (C8.fnScope (topS 27)) := C8.fnScope_by (by decide +kernel)
theorem sc_is_piece : FnScope ["many", "value"] ["many", "value"] (C8.fnScope (topS 32)) := C8.fnScope_by (by decide +kernel)
theorem sc_is_open_form : FnScope ["form"] ["form"] (C8.fnScope (topS 33)) := C8.fnScope_by (by decide +kernel)
theorem sc_is_power : FnScope ["piece"] ["piece"] (C8.fnScope (topS 34)) := C8.fnScope_by (by decide +kernel)
theorem sc_fixed_piece : FnScope ["word", "many"] ["word", "many"] (C8.fnScope (topS 35)) := C8.fnScope_by (by decide +kernel)
theorem sc_measure : FnScope ["pieces", "word", "form"] ["pieces"] (C8.fnScope (topS 36)) := C8.fnScope_by (by decide +kernel)
theorem sc_normal_pieces : FnScope ["pieces", "ready", "word", "form", "size"] ["pieces"] (C8.fnScope (topS 37)) := C8.fnScope_by (by decide +kernel)
theorem sc_put_fixed : FnScope ["ready", "word", "many"] ["ready", "word", "many"] (C8.fnScope (topS 38)) := C8.fnScope_by (by decide +kernel)
theorem sc_put_power : FnScope ["ready", "word", "form", "many", "behind", "ahead", "moved"] ["ready", "word", "form"] (C8.fnScope (topS 39)) := C8.fnScope_by (by decide +kernel)
theorem sc_need_pieces : FnScope ["many", "pieces", "item"] ["many", "pieces"] (C8.fnScope (topS 41)) := C8.fnScope_by (by decide +kernel)
theorem sc_need_measure : FnScope ["total"] ["total"] (C8.fnScope (topS 42)) := C8.fnScope_by (by decide +kernel)
theorem sc_normal : FnScope ["many", "pieces"] ["many", "pieces"] (C8.fnScope (topS 43)) := C8.fnScope_by (by decide +kernel)
theorem sc_OpenText___init__ : FnScope ["self", "many", "pieces"] ["self", "many", "pieces"] (C8.fnScope (inClass (topS 45) 0)) := C8.fnScope_by (by decide +kernel)
theorem sc_OpenText___eq__ : FnScope ["self", "other"] ["self", "other"] (C8.fnScope (inClass (topS 45) 1)) := C8.fnScope_by (by decide +kernel)
theorem sc_OpenText_many : FnScope ["self"] ["self"] (C8.fnScope (inClass (topS 45) 2)) := C8.fnScope_by (by decide +kernel)
theorem sc_OpenText_pieces : FnScope ["self"] ["self"] (C8.fnScope (inClass (topS 45) 3)) := C8.fnScope_by (by decide +kernel)
theorem sc_need_text : FnScope ["value"] ["value"] (C8.fnScope (topS 46)) := C8.fnScope_by (by decide +kernel)
theorem sc_counted : FnScope ["text", "point", "word", "form"] ["text", "point"] (C8.fnScope (topS 47)) := C8.fnScope_by (by decide +kernel)
theorem sc_need_few_points : FnScope ["size", "many", "total", "_"] ["size", "many"] (C8.fnScope (topS 51)) := C8.fnScope_by (by decide +kernel)
theorem sc_points_below : FnScope ["bounds", "points", "bound", "point", "count"] ["bounds"] (C8.fnScope (topS 52)) := C8.fnScope_by (by decide +kernel)
theorem sc_parts_of : FnScope ["text", "number", "some", "every", "point", "found", "part"] ["text", "number"] (C8.fnScope (topS 53)) := C8.fnScope_by (by decide +kernel)
theorem sc_parts_at : FnScope ["text", "number", "point", "pieces", "word", "own", "times", "at"] ["text", "number", "point"] (C8.fnScope (topS 54)) := C8.fnScope_by (by decide +kernel)
theorem sc_law_hash : FnScope ["_law_seed", "_law_index", "_law_mixed"] ["_law_seed", "_law_index"] (C8.fnScope (topS 56)) := C8.fnScope_by (by decide +kernel)
theorem sc_law_generator : FnScope ["_law_script", "_law_index", "_law_seed"] ["_law_script", "_law_index"] (C8.fnScope (topS 57)) := C8.fnScope_by (by decide +kernel)
theorem sc_law_random : FnScope ["_law_generator_here", "_law_bound", "_law_drawn", "_law_turn"] ["_law_generator_here", "_law_bound"] (C8.fnScope (topS 58)) := C8.fnScope_by (by decide +kernel)
theorem sc_law_word : FnScope ["_law_generator_here", "_law_most", "_law_turn"] ["_law_generator_here", "_law_most"] (C8.fnScope (topS 59)) := C8.fnScope_by (by decide +kernel)
theorem sc_law_piece : FnScope ["_law_generator_here", "_law_base", "_law_many", "_law_great", "_law_kind", "_law_by", "_law_word_here", "_law_form", "_law_at", "_law_number"] ["_law_generator_here", "_law_base", "_law_many", "_law_great"] (C8.fnScope (topS 60)) := C8.fnScope_by (by decide +kernel)
theorem sc_law_pieces : FnScope ["_law_generator_here", "_law_many", "_law_most", "_law_great", "_law_base", "_law_turn"] ["_law_generator_here", "_law_many", "_law_most", "_law_great"] (C8.fnScope (topS 61)) := C8.fnScope_by (by decide +kernel)
theorem sc_law_value : FnScope ["_law_form", "_law_point", "_law_at"] ["_law_form", "_law_point"] (C8.fnScope (topS 62)) := C8.fnScope_by (by decide +kernel)
theorem sc_law_points : FnScope ["_law_many", "_law_most", "_law_found", "_law_at", "_law_more", "_law_point", "_law_count"] ["_law_many", "_law_most"] (C8.fnScope (topS 64)) := C8.fnScope_by (by decide +kernel)
theorem sc_law_parts : FnScope ["_law_pieces_here", "_law_point", "_law_letters", "_law_whole", "_law_piece_here", "_law_found", "_law_at"] ["_law_pieces_here", "_law_point", "_law_letters"] (C8.fnScope (topS 65)) := C8.fnScope_by (by decide +kernel)
theorem sc_law_due : FnScope ["_law_pieces_here", "_law_many", "_law_letters", "_law_some", "_law_every", "_law_point", "_law_found", "_law_word_here"] ["_law_pieces_here", "_law_many", "_law_letters"] (C8.fnScope (topS 66)) := C8.fnScope_by (by decide +kernel)
theorem sc_law_laced : FnScope ["_law_generator_here", "_law_many", "_law_pieces_here", "_law_found", "_law_piece_here"] ["_law_generator_here", "_law_many", "_law_pieces_here"] (C8.fnScope (topS 67)) := C8.fnScope_by (by decide +kernel)
theorem sc_law_good : FnScope ["_law_generator_here", "_law_many", "_law_pieces_here", "_law_letters", "_law_text", "_law_found", "_law_part", "_law_bound", "_law_shown", "_law_at", "_law_word_here", "_law_kept"] ["_law_generator_here", "_law_many", "_law_pieces_here", "_law_letters"] (C8.fnScope (topS 68)) := C8.fnScope_by (by decide +kernel)
theorem sc_law_caught : FnScope ["_law_text", "_law_number", "_law_error", "e", "_law_kinds"] ["_law_text", "_law_number"] (C8.fnScope (topS 69)) := C8.fnScope_by (by decide +kernel)
theorem sc_law : FnScope ["_law_script", "_law_index", "_law_generator_here", "_law_many", "_law_pieces_here", "_law_text", "_law_two", "_law_bad", "_law_chain", "_law_three"] ["_law_script"] (C8.fnScope (topS 70)) := C8.fnScope_by (by decide +kernel)
structure Txt (K : PySem.W.Frag) (mg : Str → Option Value) (C E_InvalidText E_InvalidNumber E_TooMany E_CountError : Addr) : Prop where
  x_InvalidText : ErrF K mg "InvalidText" "value" E_InvalidText
  x_InvalidNumber : ErrF K mg "InvalidNumber" "value" E_InvalidNumber
  x_TooMany : ErrF K mg "TooMany" "value" E_TooMany
  x_CountError : BaseE K mg "CountError" E_CountError
  s_InvalidText_InvalidText : PySem.W.subIn K (.ref E_InvalidText) (.ref E_InvalidText) = some true
  s_InvalidText_InvalidNumber : PySem.W.subIn K (.ref E_InvalidText) (.ref E_InvalidNumber) = some false
  s_InvalidText_TooMany : PySem.W.subIn K (.ref E_InvalidText) (.ref E_TooMany) = some false
  s_InvalidText_CountError : PySem.W.subIn K (.ref E_InvalidText) (.ref E_CountError) = some true
  s_InvalidNumber_InvalidText : PySem.W.subIn K (.ref E_InvalidNumber) (.ref E_InvalidText) = some false
  s_InvalidNumber_InvalidNumber : PySem.W.subIn K (.ref E_InvalidNumber) (.ref E_InvalidNumber) = some true
  s_InvalidNumber_TooMany : PySem.W.subIn K (.ref E_InvalidNumber) (.ref E_TooMany) = some false
  s_InvalidNumber_CountError : PySem.W.subIn K (.ref E_InvalidNumber) (.ref E_CountError) = some true
  s_TooMany_InvalidText : PySem.W.subIn K (.ref E_TooMany) (.ref E_InvalidText) = some false
  s_TooMany_InvalidNumber : PySem.W.subIn K (.ref E_TooMany) (.ref E_InvalidNumber) = some false
  s_TooMany_TooMany : PySem.W.subIn K (.ref E_TooMany) (.ref E_TooMany) = some true
  s_TooMany_CountError : PySem.W.subIn K (.ref E_TooMany) (.ref E_CountError) = some true
  k_OpenText : ClF K mg "OpenText" C
  t_OpenText : TyC K C
  f_many : NoAttr K C "_many"
  f_pieces : NoAttr K C "_pieces"
  d_is_whole : DefF K mg "is_whole" (topS 10) ["value"]
  d_is_count : DefF K mg "is_count" (topS 11) ["value"]
  d_is_within : DefF K mg "is_within" (topS 12) ["value", "low", "high"]
  d_is_lettered : DefF K mg "is_lettered" (topS 13) ["value", "most"]
  d_need_within : DefF K mg "need_within" (topS 14) ["value", "low", "high"]
  d_need_many : DefF K mg "need_many" (topS 15) ["value"]
  d_is_form_for : DefF K mg "is_form_for" (topS 17) ["many", "value"]
  d_form_value : DefF K mg "form_value" (topS 18) ["form", "point"]
  d_form_sum : DefF K mg "form_sum" (topS 19) ["one", "other"]
  d_form_times : DefF K mg "form_times" (topS 20) ["number", "form"]
  d_turned_word : DefF K mg "turned_word" (topS 22) ["word", "by"]
  d_stretch : DefF K mg "stretch" (topS 23) ["word", "start", "size"]
  d_alike_ahead : DefF K mg "alike_ahead" (topS 24) ["one", "other"]
  d_alike_behind : DefF K mg "alike_behind" (topS 25) ["one", "other"]
  d_border_sizes : DefF K mg "border_sizes" (topS 26) ["word"]
  d_root_size : DefF K mg "root_size" (topS 27) ["word"]
  d_is_piece : DefF K mg "is_piece" (topS 32) ["many", "value"]
  d_is_open_form : DefF K mg "is_open_form" (topS 33) ["form"]
  d_is_power : DefF K mg "is_power" (topS 34) ["piece"]
  d_fixed_piece : DefF K mg "fixed_piece" (topS 35) ["word", "many"]
  d_measure : DefF K mg "measure" (topS 36) ["pieces"]
  d_normal_pieces : DefF K mg "normal_pieces" (topS 37) ["pieces"]
  d_put_fixed : DefF K mg "put_fixed" (topS 38) ["ready", "word", "many"]
  d_put_power : DefF K mg "put_power" (topS 39) ["ready", "word", "form"]
  d_need_pieces : DefF K mg "need_pieces" (topS 41) ["many", "pieces"]
  d_need_measure : DefF K mg "need_measure" (topS 42) ["total"]
  d_normal : DefF K mg "normal" (topS 43) ["many", "pieces"]
  d_OpenText___init__ : MetF K C "__init__" "OpenText.__init__" (inClass (topS 45) 0) ["self", "many", "pieces"]
  d_OpenText___eq__ : MetF K C "__eq__" "OpenText.__eq__" (inClass (topS 45) 1) ["self", "other"]
  d_OpenText_many : MetF K C "many" "OpenText.many" (inClass (topS 45) 2) ["self"]
  d_OpenText_pieces : MetF K C "pieces" "OpenText.pieces" (inClass (topS 45) 3) ["self"]
  d_need_text : DefF K mg "need_text" (topS 46) ["value"]
  d_counted : DefF K mg "counted" (topS 47) ["text", "point"]
  d_need_few_points : DefF K mg "need_few_points" (topS 51) ["size", "many"]
  d_points_below : DefF K mg "points_below" (topS 52) ["bounds"]
  d_parts_of : DefD K mg "parts_of" (topS 53) [] []
  d_parts_at : DefF K mg "parts_at" (topS 54) ["text", "number", "point"]
  d_law_hash : DefF K mg "_law_hash" (topS 56) ["_law_seed", "_law_index"]
  d_law_generator : DefF K mg "_law_generator" (topS 57) ["_law_script", "_law_index"]
  d_law_random : DefF K mg "_law_random" (topS 58) ["_law_generator_here", "_law_bound"]
  d_law_word : DefF K mg "_law_word" (topS 59) ["_law_generator_here", "_law_most"]
  d_law_piece : DefF K mg "_law_piece" (topS 60) ["_law_generator_here", "_law_base", "_law_many", "_law_great"]
  d_law_pieces : DefF K mg "_law_pieces" (topS 61) ["_law_generator_here", "_law_many", "_law_most", "_law_great"]
  d_law_value : DefF K mg "_law_value" (topS 62) ["_law_form", "_law_point"]
  d_law_points : DefF K mg "_law_points" (topS 64) ["_law_many", "_law_most"]
  d_law_parts : DefF K mg "_law_parts" (topS 65) ["_law_pieces_here", "_law_point", "_law_letters"]
  d_law_due : DefF K mg "_law_due" (topS 66) ["_law_pieces_here", "_law_many", "_law_letters"]
  d_law_laced : DefF K mg "_law_laced" (topS 67) ["_law_generator_here", "_law_many", "_law_pieces_here"]
  d_law_good : DefF K mg "_law_good" (topS 68) ["_law_generator_here", "_law_many", "_law_pieces_here", "_law_letters"]
  d_law_caught : DefF K mg "_law_caught" (topS 69) ["_law_text", "_law_number"]
  d_law : DefF K mg "law" (topS 70) ["_law_script"]
  m_all : mg "all" = none
  m_any : mg "any" = none
  m_bool : mg "bool" = none
  m_int : mg "int" = none
  m_isinstance : mg "isinstance" = none
  m_len : mg "len" = none
  m_list : mg "list" = none
  m_max : mg "max" = none
  m_min : mg "min" = none
  m_range : mg "range" = none
  m_repr : mg "repr" = none
  m_sorted : mg "sorted" = none
  m_str : mg "str" = none
  m_sum : mg "sum" = none
  m_tuple : mg "tuple" = none
  m_zip : mg "zip" = none
  k_MOST_MEASURE : ∃ u, mg "MOST_MEASURE" = some u ∧ RelV (.int 2000) u
  k_MOST_PART_LETTERS : ∃ u, mg "MOST_PART_LETTERS" = some u ∧ RelV (.int 40) u
  k_MOST_PIECES : ∃ u, mg "MOST_PIECES" = some u ∧ RelV (.int 5000) u
  k_MOST_PIECE_LETTERS : ∃ u, mg "MOST_PIECE_LETTERS" = some u ∧ RelV (.int 2000) u
  k_MOST_POINTS : ∃ u, mg "MOST_POINTS" = some u ∧ RelV (.int 600) u
  k_MOST_UNKNOWNS : ∃ u, mg "MOST_UNKNOWNS" = some u ∧ RelV (.int 3) u
end K59

set_option linter.all false
/-! words as lists of numbers: beginnings, borders, periods, powers, roots -/
namespace WM
abbrev W := List Nat
/-! ### beginnings in common -/
def lcp : W → W → Nat
  | x :: xs, y :: ys => if x = y then lcp xs ys + 1 else 0
  | _, _ => 0
theorem lcp_le : ∀ a b : W, lcp a b ≤ a.length ∧ lcp a b ≤ b.length
  | [], b => by simp [lcp]
  | _ :: _, [] => by simp [lcp]
  | x :: xs, y :: ys => by
    have := lcp_le xs ys
    unfold lcp
    split <;> simp <;> omega
theorem lcp_take : ∀ (a b : W) (k : Nat), k ≤ lcp a b → a.take k = b.take k
  | _, _, 0, _ => by simp
  | [], b, k + 1, h => by simp [lcp] at h
  | _ :: _, [], k + 1, h => by simp [lcp] at h
  | x :: xs, y :: ys, k + 1, h => by
    unfold lcp at h
    split at h
    · rename_i e
      subst e
      rw [List.take_succ_cons, List.take_succ_cons, lcp_take xs ys k (by omega)]
    · omega
theorem le_lcp : ∀ (a b : W) (k : Nat), k ≤ a.length → k ≤ b.length → a.take k = b.take k → k ≤ lcp a b
  | _, _, 0, _, _, _ => Nat.zero_le _
  | [], b, k + 1, h, _, _ => by simp at h
  | _ :: _, [], k + 1, _, h, _ => by simp at h
  | x :: xs, y :: ys, k + 1, h1, h2, h => by
    rw [List.take_succ_cons, List.take_succ_cons] at h
    injection h with e1 e2
    subst e1
    have := le_lcp xs ys k (by simpa using h1) (by simpa using h2) e2
    unfold lcp
    rw [if_pos rfl]
    omega
theorem lcp_iff {a b : W} {k : Nat} (h1 : k ≤ a.length) (h2 : k ≤ b.length) : a.take k = b.take k ↔ k ≤ lcp a b := ⟨le_lcp a b k h1 h2, lcp_take a b k⟩

/-! ### periods and borders -/
/-- letters that stand p apart are the same -/
def Per (p : Nat) (w : W) : Prop := ∀ i, i + p < w.length → w[i]? = w[i + p]?
/-- the first b letters are the last b -/
def Bor (b : Nat) (w : W) : Prop := b ≤ w.length ∧ ∀ i, i < b → w[i]? = w[w.length - b + i]?
instance (b : Nat) (w : W) : Decidable (Bor b w) := by unfold Bor; exact inferInstance
theorem bor_per {b : Nat} {w : W} (h : Bor b w) : Per (w.length - b) w := fun i hi => by
  rw [h.2 i (by have := h.1; omega), Nat.add_comm i]
theorem per_bor {p : Nat} {w : W} (hp : p ≤ w.length) (h : Per p w) : Bor (w.length - p) w := by
  refine ⟨Nat.sub_le _ _, fun i hi => ?_⟩
  rw [h i (by omega)]
  congr 1
  omega
theorem per_zero (w : W) : Per 0 w := fun i _ => rfl
theorem per_len {p : Nat} {w : W} (h : w.length ≤ p) : Per p w := fun i hi => by omega
theorem per_take {p k : Nat} {w : W} (h : Per p w) : Per p (w.take k) := fun i hi => by
  rw [List.length_take] at hi
  rw [List.getElem?_take_of_lt (by omega), List.getElem?_take_of_lt (by omega)]
  exact h i (by omega)
theorem per_mul {p : Nat} {w : W} (h : Per p w) : ∀ (k i : Nat), i + p * k < w.length → w[i]? = w[i + p * k]?
  | 0, i, _ => by simp
  | k + 1, i, hi => by
    rw [Nat.mul_succ] at hi ⊢
    rw [per_mul h k i (by omega), h (i + p * k) (by omega)]
    congr 1
    omega
/-- Fine and Wilf's, the weak form -/
theorem per_sub {p q : Nat} {w : W} (hpq : p ≤ q) (hp : Per p w) (hq : Per q w) (hl : p + q ≤ w.length) : Per (q - p) w := fun i hi => by
  by_cases h : i + q < w.length
  · rw [hq i h]
    have := hp (i + (q - p)) (by omega)
    rw [this]
    congr 1
    omega
  · have h1 : p ≤ i := by omega
    have a := hp (i - p) (by omega)
    have b := hq (i - p) (by omega)
    rw [show i - p + p = i by omega] at a
    rw [show i - p + q = i + (q - p) by omega] at b
    rw [← a, b]
theorem fine_wilf : ∀ (n p q : Nat) (w : W), p + q ≤ n → Per p w → Per q w → p + q ≤ w.length → Per (Nat.gcd p q) w
  | 0, p, q, w, hn, hp, hq, _ => by
    have e1 : p = 0 := by omega
    have e2 : q = 0 := by omega
    subst e1 e2
    exact hp
  | n + 1, p, q, w, hn, hp, hq, hl => by
    by_cases p0 : p = 0
    · subst p0
      rw [Nat.gcd_zero_left]
      exact hq
    by_cases q0 : q = 0
    · subst q0
      rw [Nat.gcd_zero_right]
      exact hp
    by_cases h : p ≤ q
    · have := fine_wilf n p (q - p) w (by omega) hp (per_sub h hp hq hl) (by omega)
      rw [Nat.gcd_sub_self_right h] at this
      exact this
    · have := fine_wilf n (p - q) q w (by omega) (per_sub (by omega) hq hp (by omega)) hq (by omega)
      rw [Nat.gcd_sub_self_left (by omega)] at this
      exact this
theorem per_gcd {p q : Nat} {w : W} (hp : Per p w) (hq : Per q w) (hl : p + q ≤ w.length) : Per (Nat.gcd p q) w := fine_wilf _ p q w (Nat.le_refl _) hp hq hl

/-! ### the longest border -/
def lbF (w : W) : Nat → Nat
  | 0 => 0
  | b + 1 => if Bor (b + 1) w then b + 1 else lbF w b
/-- how long the longest border is, besides the word itself -/
def lb (w : W) : Nat := lbF w (w.length - 1)
theorem bor_zero (w : W) : Bor 0 w := ⟨Nat.zero_le _, fun i h => by omega⟩
theorem lbF_bor (w : W) : ∀ b, Bor (lbF w b) w ∧ lbF w b ≤ b
  | 0 => ⟨bor_zero w, Nat.le_refl _⟩
  | b + 1 => by
    unfold lbF
    split
    · rename_i h
      exact ⟨h, Nat.le_refl _⟩
    · have := lbF_bor w b
      exact ⟨this.1, by omega⟩
theorem lbF_max (w : W) : ∀ b c, c ≤ b → Bor c w → c ≤ lbF w b
  | 0, c, h, _ => by omega
  | b + 1, c, h, hc => by
    unfold lbF
    split
    · omega
    · rename_i hn
      by_cases e : c = b + 1
      · subst e
        exact absurd hc hn
      · exact lbF_max w b c (by omega) hc
theorem lb_bor (w : W) : Bor (lb w) w := (lbF_bor w _).1
theorem lb_lt {w : W} (h : w ≠ []) : lb w < w.length := by
  have := (lbF_bor w (w.length - 1)).2
  have := List.length_pos_iff.mpr h
  unfold lb
  omega
theorem lb_max {w : W} {c : Nat} (h : c < w.length) (hc : Bor c w) : c ≤ lb w := lbF_max w _ c (by omega) hc
/-- a border of a border is a border; a shorter border is one of the longer -/
theorem bor_take {w : W} {b c : Nat} (hb : Bor b w) (hc : c ≤ b) : Bor c w ↔ Bor c (w.take b) := by
  have l : (w.take b).length = b := by rw [List.length_take]; have := hb.1; omega
  constructor
  · intro h
    refine ⟨by rw [l]; exact hc, fun i hi => ?_⟩
    rw [l, List.getElem?_take_of_lt (by omega), List.getElem?_take_of_lt (by omega), h.2 i hi, hb.2 (b - c + i) (by omega)]
    congr 1
    have := hb.1
    omega
  · intro h
    refine ⟨Nat.le_trans hc hb.1, fun i hi => ?_⟩
    have := h.2 i hi
    rw [l, List.getElem?_take_of_lt (by omega), List.getElem?_take_of_lt (by omega)] at this
    rw [this, hb.2 (b - c + i) (by omega)]
    congr 1
    have := hb.1
    omega
/-- a border, one letter longer -/
theorem bor_succ {w : W} {n b : Nat} (hn : n < w.length) (hb : b < n) : Bor (b + 1) (w.take (n + 1)) ↔ Bor b (w.take n) ∧ w[b]? = w[n]? := by
  have l1 : (w.take (n + 1)).length = n + 1 := by rw [List.length_take]; omega
  have l0 : (w.take n).length = n := by rw [List.length_take]; omega
  constructor
  · intro h
    refine ⟨⟨by omega, fun i hi => ?_⟩, ?_⟩
    · have := h.2 i (by omega)
      rw [l1, List.getElem?_take_of_lt (by omega), List.getElem?_take_of_lt (by omega)] at this
      rw [l0, List.getElem?_take_of_lt (by omega), List.getElem?_take_of_lt (by omega), this]
      congr 1
      omega
    · have := h.2 b (by omega)
      rw [l1, List.getElem?_take_of_lt (by omega), List.getElem?_take_of_lt (by omega)] at this
      rw [this]
      congr 1
      omega
  · rintro ⟨h, e⟩
    refine ⟨by omega, fun i hi => ?_⟩
    rw [l1, List.getElem?_take_of_lt (by omega), List.getElem?_take_of_lt (by omega)]
    by_cases z : i < b
    · have := h.2 i z
      rw [l0, List.getElem?_take_of_lt (by omega), List.getElem?_take_of_lt (by omega)] at this
      rw [this]
      congr 1
      omega
    · have e1 : i = b := by omega
      subst e1
      rw [e]
      congr 1
      omega
/-- the walk down the borders: the state at a turn of the inner loop -/
def Cand (w : W) (n s : Nat) : Prop := s < n ∧ Bor s (w.take n) ∧ ∀ b, b < n → Bor b (w.take n) → w[b]? = w[n]? → b ≤ s
theorem cand_start {w : W} {n : Nat} (hn : n ≤ w.length) (h0 : 0 < n) : Cand w n (lb (w.take n)) := by
  have l0 : (w.take n).length = n := by rw [List.length_take]; omega
  have ne : w.take n ≠ [] := fun z => by rw [z] at l0; simp at l0; omega
  refine ⟨by have := lb_lt ne; omega, lb_bor _, fun b hb h _ => lb_max (by omega) h⟩
theorem cand_down {w : W} {n s : Nat} (hn : n ≤ w.length) (h : Cand w n s) (hs : 0 < s) (hd : w[s]? ≠ w[n]?) : Cand w n (lb (w.take s)) := by
  obtain ⟨h1, h2, h3⟩ := h
  have ls : (w.take s).length = s := by rw [List.length_take]; omega
  have ne : w.take s ≠ [] := fun z => by rw [z] at ls; simp at ls; omega
  have lt := lb_lt ne
  have tt : (w.take n).take s = w.take s := by rw [List.take_take]; congr 1; omega
  have bs : Bor (lb (w.take s)) (w.take n) := by
    rw [bor_take h2 (by omega), tt]
    exact lb_bor _
  refine ⟨by omega, bs, fun b hb hB e => ?_⟩
  have le := h3 b hb hB e
  have ne2 : b ≠ s := fun z => hd (by rw [← z]; exact e)
  have : Bor b (w.take s) := by
    rw [← tt, ← bor_take h2 (by omega)]
    exact hB
  exact lb_max (by omega) this
theorem cand_hit {w : W} {n s : Nat} (hn : n < w.length) (h : Cand w n s) (e : w[s]? = w[n]?) : lb (w.take (n + 1)) = s + 1 := by
  obtain ⟨h1, h2, h3⟩ := h
  have l1 : (w.take (n + 1)).length = n + 1 := by rw [List.length_take]; omega
  have ne : w.take (n + 1) ≠ [] := fun z => by rw [z] at l1; simp at l1
  have hB : Bor (s + 1) (w.take (n + 1)) := (bor_succ hn h1).mpr ⟨h2, e⟩
  have le := lb_max (by omega) hB
  have lt := lb_lt ne
  have lB := lb_bor (w.take (n + 1))
  generalize lb (w.take (n + 1)) = x at le lt lB ⊢
  cases x with
  | zero => omega
  | succ x =>
    obtain ⟨a, b⟩ := (bor_succ hn (by omega)).mp lB
    have := h3 x (by omega) a b
    omega
theorem cand_miss {w : W} {n : Nat} (hn : n < w.length) (h : Cand w n 0) (e : w[0]? ≠ w[n]?) : lb (w.take (n + 1)) = 0 := by
  obtain ⟨h1, h2, h3⟩ := h
  have l1 : (w.take (n + 1)).length = n + 1 := by rw [List.length_take]; omega
  have ne : w.take (n + 1) ≠ [] := fun z => by rw [z] at l1; simp at l1
  have lt := lb_lt ne
  have lB := lb_bor (w.take (n + 1))
  generalize lb (w.take (n + 1)) = x at lt lB ⊢
  cases x with
  | zero => rfl
  | succ x =>
    obtain ⟨a, b⟩ := (bor_succ hn (by omega)).mp lB
    have := h3 x (by omega) a b
    have z : x = 0 := by omega
    subst z
    exact absurd b e
theorem lb_one {w : W} : lb (w.take 1) = 0 := by
  cases w with
  | nil => simp [lb, lbF]
  | cons x r => simp [lb, lbF]

/-! ### powers and roots -/
/-- w taken k times -/
def pw (w : W) (k : Nat) : W := (List.replicate k w).flatten
theorem pw_succ (w : W) (k : Nat) : pw w (k + 1) = w ++ pw w k := by unfold pw; rw [List.replicate_succ, List.flatten_cons]
theorem pw_zero (w : W) : pw w 0 = [] := rfl
theorem pw_len (w : W) : ∀ k, (pw w k).length = w.length * k
  | 0 => by simp [pw_zero]
  | k + 1 => by rw [pw_succ, List.length_append, pw_len w k, Nat.mul_succ, Nat.add_comm]
theorem pw_add (w : W) : ∀ a b, pw w (a + b) = pw w a ++ pw w b
  | 0, b => by rw [Nat.zero_add, pw_zero, List.nil_append]
  | a + 1, b => by rw [show a + 1 + b = a + b + 1 by omega, pw_succ, pw_add w a b, pw_succ, List.append_assoc]
theorem pw_get {w : W} (h : w ≠ []) : ∀ (k i : Nat), i < w.length * k → (pw w k)[i]? = w[i % w.length]?
  | 0, i, hi => by simp at hi
  | k + 1, i, hi => by
    have n0 := List.length_pos_iff.mpr h
    rw [pw_succ]
    by_cases z : i < w.length
    · rw [List.getElem?_append_left z, Nat.mod_eq_of_lt z]
    · have hm : w.length * (k + 1) = w.length * k + w.length := Nat.mul_succ ..
      rw [List.getElem?_append_right (by omega), pw_get h k _ (by omega), Nat.mod_eq_sub_mod (show i ≥ w.length by omega)]
/-- a word with a period that divides its length is a power -/
theorem per_pw {w : W} {d : Nat} (hd : 0 < d) (hp : Per d w) (hv : d ∣ w.length) : w = pw (w.take d) (w.length / d) := by
  obtain ⟨k, hk⟩ := hv
  by_cases k0 : k = 0
  · subst k0
    rw [Nat.mul_zero] at hk
    rw [List.length_eq_zero_iff.mp hk]
    simp [pw]
  have dl : d ≤ w.length := by rw [hk]; exact Nat.le_mul_of_pos_right d (by omega)
  have lt : (w.take d).length = d := by rw [List.length_take]; omega
  have ne : w.take d ≠ [] := fun z => by rw [z] at lt; simp at lt; omega
  have ek : w.length / d = k := by rw [hk]; exact Nat.mul_div_cancel_left k hd
  rw [ek]
  refine List.ext_getElem? fun i => ?_
  by_cases hi : i < w.length
  · rw [pw_get ne k i (by rw [lt, ← hk]; exact hi), lt, List.getElem?_take_of_lt (Nat.mod_lt i hd)]
    have := per_mul hp (i / d) (i % d) (by rw [Nat.mod_add_div]; exact hi)
    rw [this, Nat.mod_add_div]
  · rw [List.getElem?_eq_none (by omega), List.getElem?_eq_none (by rw [pw_len, lt, ← hk]; omega)]
theorem pw_per {u : W} (h : u ≠ []) (k : Nat) : Per u.length (pw u k) := fun i hi => by
  rw [pw_len] at hi
  rw [pw_get h k i (by omega), pw_get h k _ hi, Nat.add_mod_right]
/-- not empty, and no shorter word taken several times -/
def Prim (w : W) : Prop := w ≠ [] ∧ ∀ d, 0 < d → d ∣ w.length → Per d w → d = w.length
theorem prim_pw {w u : W} {k : Nat} (h : Prim w) (e : w = pw u k) : k = 1 ∧ u = w := by
  have une : u ≠ [] := fun z => by
    subst z
    apply h.1
    rw [e]
    simp [pw]
  have l : w.length = u.length * k := by rw [e, pw_len]
  have := h.2 u.length (List.length_pos_iff.mpr une) ⟨k, l⟩ (by rw [e]; exact pw_per une k)
  have n0 := List.length_pos_iff.mpr une
  have k1 : k = 1 := by
    rw [this] at l
    have : w.length * 1 = w.length * k := by omega
    exact (Nat.eq_of_mul_eq_mul_left (by omega) this).symm
  subst k1
  exact ⟨rfl, by rw [e, pw_succ, pw_zero, List.append_nil]⟩
/-- the root's length, as the program finds it -/
def rootN (w : W) : Nat := if w.length % (w.length - lb w) = 0 then w.length - lb w else w.length
theorem rootN_dvd (w : W) : rootN w ∣ w.length := by
  unfold rootN
  split
  · rename_i h
    exact Nat.dvd_of_mod_eq_zero h
  · exact Nat.dvd_refl _
theorem rootN_pos {w : W} (h : w ≠ []) : 0 < rootN w := by
  have := lb_lt h
  have := List.length_pos_iff.mpr h
  unfold rootN
  split <;> omega
theorem rootN_le {w : W} (h : w ≠ []) : rootN w ≤ w.length := Nat.le_of_dvd (List.length_pos_iff.mpr h) (rootN_dvd w)
theorem rootN_per (w : W) : Per (rootN w) w := by
  unfold rootN
  split
  · exact bor_per (lb_bor w)
  · exact per_len (Nat.le_refl _)
/-- no period is less than the program's step -/
theorem step_least {w : W} {p : Nat} (hp : 0 < p) (hl : p ≤ w.length) (h : Per p w) : w.length - lb w ≤ p := by
  have := lb_max (c := w.length - p) (by omega) (per_bor hl h)
  omega
/-- a period of the word that divides its length is a multiple of the root's -/
theorem root_div {w : W} (hw : w ≠ []) {d : Nat} (hd : 0 < d) (hv : d ∣ w.length) (h : Per d w) : rootN w ∣ d := by
  have n0 := List.length_pos_iff.mpr hw
  have dl := Nat.le_of_dvd n0 hv
  have lt := lb_lt hw
  have s := step_least hd dl h
  by_cases e : d = w.length
  · rw [e]
    exact rootN_dvd w
  · have two : d + d ≤ w.length := by
      obtain ⟨k, hk⟩ := hv
      have : k ≠ 0 := fun z => by subst z; omega
      have : k ≠ 1 := fun z => by subst z; omega
      have : d * 2 ≤ d * k := Nat.mul_le_mul_left d (by omega)
      omega
    have g := per_gcd (bor_per (lb_bor w)) h (by omega)
    have gp : 0 < Nat.gcd (w.length - lb w) d := Nat.gcd_pos_of_pos_right _ hd
    have g1 := step_least gp (Nat.le_trans (Nat.gcd_le_right _ hd) dl) g
    have g2 : Nat.gcd (w.length - lb w) d ∣ w.length - lb w := Nat.gcd_dvd_left _ _
    have g3 : Nat.gcd (w.length - lb w) d = w.length - lb w := Nat.le_antisymm (Nat.le_of_dvd (by omega) g2) g1
    have g4 : w.length - lb w ∣ d := by rw [← g3]; exact Nat.gcd_dvd_right _ _
    have : w.length % (w.length - lb w) = 0 := Nat.mod_eq_zero_of_dvd (Nat.dvd_trans g4 hv)
    unfold rootN
    rw [if_pos this]
    exact g4
theorem root_prim {w : W} (hw : w ≠ []) : Prim (w.take (rootN w)) := by
  have r0 := rootN_pos hw
  have rl := rootN_le hw
  have l : (w.take (rootN w)).length = rootN w := by rw [List.length_take]; omega
  refine ⟨fun z => by rw [z] at l; simp at l; omega, fun d hd hv h => ?_⟩
  rw [l] at hv ⊢
  -- a period of the root that divides it is one of the word
  have hw' : Per d w := fun i hi => by
    have mul : ∀ j, j < w.length → w[j]? = w[j % rootN w]? := fun j hj => by
      have := per_mul (rootN_per w) (j / rootN w) (j % rootN w) (by rw [Nat.mod_add_div]; exact hj)
      rw [Nat.mod_add_div] at this
      exact this.symm
    have inner : ∀ j, j < rootN w → w[j]? = w[j % d]? := fun j hj => by
      have := per_mul h (j / d) (j % d) (by rw [Nat.mod_add_div, l]; exact hj)
      rw [Nat.mod_add_div, List.getElem?_take_of_lt hj, List.getElem?_take_of_lt (by have := Nat.mod_le j d; omega)] at this
      exact this.symm
    rw [mul i (by omega), mul (i + d) hi, inner _ (Nat.mod_lt _ r0), inner ((i + d) % rootN w) (Nat.mod_lt _ r0)]
    congr 1
    rw [Nat.mod_mod_of_dvd _ hv, Nat.mod_mod_of_dvd _ hv, Nat.add_mod_right]
  exact Nat.dvd_antisymm hv (root_div hw hd (Nat.dvd_trans hv (rootN_dvd w)) hw')
theorem root_pw {w : W} (hw : w ≠ []) : w = pw (w.take (rootN w)) (w.length / rootN w) := per_pw (rootN_pos hw) (rootN_per w) (rootN_dvd w)
end WM

set_option linter.all false
set_option maxRecDepth 100000
namespace NM
open WM
/-! ### the last letters of a word taken without end; rotations -/
theorem mod_of {a b L x y : Nat} (h : a + L * x = b + L * y) : a % L = b % L := by
  rw [← Nat.add_mul_mod_self_left a L x, h, Nat.add_mul_mod_self_left]
def rotR (u : W) (k : Nat) : W := u.drop (u.length - k % u.length) ++ u.take (u.length - k % u.length)
def tailE (u : W) (k : Nat) : W := u.drop (u.length - k % u.length) ++ pw u (k / u.length)
theorem tailE_len {u : W} (h : u ≠ []) (k : Nat) : (tailE u k).length = k := by
  have n0 := List.length_pos_iff.mpr h
  have := Nat.mod_lt k n0
  have := Nat.mod_add_div k u.length
  unfold tailE
  rw [List.length_append, List.length_drop, pw_len]
  omega
theorem tailE_get {u : W} (h : u ≠ []) {k i : Nat} (hi : i < k) : (tailE u k)[i]? = u[(i + (u.length - k % u.length)) % u.length]? := by
  have n0 := List.length_pos_iff.mpr h
  have hm := Nat.mod_lt k n0
  have hd := Nat.mod_add_div k u.length
  unfold tailE
  by_cases z : i < k % u.length
  · rw [List.getElem?_append_left (by rw [List.length_drop]; omega), List.getElem?_drop, Nat.mod_eq_of_lt (show i + (u.length - k % u.length) < u.length by omega), Nat.add_comm]
  · rw [List.getElem?_append_right (by rw [List.length_drop]; omega), List.length_drop, pw_get h _ _ (by omega)]
    congr 1
    exact mod_of (x := 1) (y := 0) (by omega)
theorem tailE_drop {u : W} (h : u ≠ []) {n k : Nat} (hk : k ≤ n) : (tailE u n).drop (n - k) = tailE u k := by
  have n0 := List.length_pos_iff.mpr h
  refine List.ext_getElem? fun i => ?_
  by_cases hi : i < k
  · rw [List.getElem?_drop, tailE_get h (by omega), tailE_get h hi]
    congr 1
    have h1 := Nat.mod_add_div n u.length
    have h2 := Nat.mod_add_div k u.length
    have h3 := Nat.mod_lt n n0
    have h4 := Nat.mod_lt k n0
    exact mod_of (x := k / u.length) (y := n / u.length) (by omega)
  · rw [List.getElem?_eq_none (by rw [List.length_drop, tailE_len h]; omega), List.getElem?_eq_none (by rw [tailE_len h]; omega)]
theorem pw_comm (p s : W) : ∀ j, pw (s ++ p) j ++ s = s ++ pw (p ++ s) j
  | 0 => by simp [pw]
  | j + 1 => by
    rw [pw_succ, pw_succ, List.append_assoc, pw_comm p s j]
    simp [List.append_assoc]
theorem rotR_split (u : W) (k : Nat) : rotR u k = u.drop (u.length - k % u.length) ++ u.take (u.length - k % u.length) := rfl
theorem rotR_len (u : W) (k : Nat) : (rotR u k).length = u.length := by
  unfold rotR
  rw [List.length_append, List.length_drop, List.length_take]
  omega
/-- what is moved behind a power, and the power turned -/
theorem move_pw (u : W) (k j : Nat) : pw (rotR u k) j ++ tailE u k = tailE u k ++ pw u j := by
  have e : u.take (u.length - k % u.length) ++ u.drop (u.length - k % u.length) = u := List.take_append_drop _ _
  unfold tailE rotR
  rw [← List.append_assoc, pw_comm, e, List.append_assoc, ← pw_add, List.append_assoc, ← pw_add, Nat.add_comm]
theorem rotR_get {u : W} (h : u ≠ []) (k : Nat) {i : Nat} (hi : i < u.length) : (rotR u k)[i]? = u[(i + (u.length - k % u.length)) % u.length]? := by
  have n0 := List.length_pos_iff.mpr h
  have hm := Nat.mod_lt k n0
  unfold rotR
  by_cases z : i < k % u.length
  · rw [List.getElem?_append_left (by rw [List.length_drop]; omega), List.getElem?_drop, Nat.mod_eq_of_lt (show i + (u.length - k % u.length) < u.length by omega), Nat.add_comm]
  · rw [List.getElem?_append_right (by rw [List.length_drop]; omega), List.length_drop, List.getElem?_take_of_lt (by omega)]
    congr 1
    rw [show i - (u.length - (u.length - k % u.length)) = i - k % u.length by omega]
    have := mod_of (a := i + (u.length - k % u.length)) (b := i - k % u.length) (L := u.length) (x := 0) (y := 1) (by omega)
    rw [this, Nat.mod_eq_of_lt (show i - k % u.length < u.length by omega)]
theorem rotR_ne {u : W} (h : u ≠ []) (k : Nat) : rotR u k ≠ [] := fun z => by
  have := rotR_len u k
  rw [z] at this
  exact h (List.length_eq_zero_iff.mp this.symm)
theorem rotR_zero (u : W) : rotR u 0 = u := by
  unfold rotR
  simp
theorem last_get {w : W} (h : w ≠ []) : w.getLast? = w[w.length - 1]? := List.getLast?_eq_getElem? ..
/-- the last letter of the turned word is the letter ahead of what was moved -/
theorem rotR_last {u : W} (h : u ≠ []) {n k : Nat} (hk : k < n) : (rotR u k).getLast? = (tailE u n)[n - k - 1]? := by
  have n0 := List.length_pos_iff.mpr h
  rw [last_get (rotR_ne h k), rotR_len, rotR_get h k (by omega), tailE_get h (by omega)]
  congr 1
  have h1 := Nat.mod_add_div n u.length
  have h2 := Nat.mod_add_div k u.length
  have h3 := Nat.mod_lt n n0
  have h4 := Nat.mod_lt k n0
  exact mod_of (x := n / u.length) (y := k / u.length + 1) (by rw [Nat.mul_add]; omega)
theorem per_at {d : Nat} {w : W} (hd : 0 < d) (h : Per d w) {i : Nat} (hi : i < w.length) : w[i]? = w[i % d]? := by
  have := per_mul h (i / d) (i % d) (by rw [Nat.mod_add_div]; exact hi)
  rw [Nat.mod_add_div] at this
  exact this.symm
theorem prim_rotR {u : W} (h : Prim u) (k : Nat) : Prim (rotR u k) := by
  have ne := h.1
  have n0 := List.length_pos_iff.mpr ne
  refine ⟨rotR_ne ne k, fun d hd hv hp => ?_⟩
  rw [rotR_len] at hv ⊢
  refine h.2 d hd hv fun i hi => ?_
  -- letter i of u stands in the turned word at the place i + k
  have at_ : ∀ j, j < u.length → u[j]? = (rotR u k)[(j + k) % u.length]? := fun j hj => by
    rw [rotR_get ne k (Nat.mod_lt _ n0)]
    congr 1
    have h1 := Nat.mod_add_div (j + k) u.length
    have h2 := Nat.mod_add_div k u.length
    have h4 := Nat.mod_lt k n0
    have := mod_of (a := (j + k) % u.length + (u.length - k % u.length)) (b := j) (L := u.length) (x := (j + k) / u.length) (y := k / u.length + 1) (by rw [Nat.mul_add]; omega)
    rw [this, Nat.mod_eq_of_lt hj]
  have l := rotR_len u k
  rw [at_ i (by omega), at_ (i + d) hi, per_at hd hp (by rw [l]; exact Nat.mod_lt _ n0), per_at hd hp (i := (i + d + k) % u.length) (by rw [l]; exact Nat.mod_lt _ n0)]
  congr 1
  rw [Nat.mod_mod_of_dvd _ hv, Nat.mod_mod_of_dvd _ hv, show i + d + k = i + k + d by omega, Nat.add_mod_right]
/-! ### how many letters are moved -/
def movedE (ahead u : W) : Nat := lcp ahead.reverse (tailE u ahead.length).reverse
theorem movedE_le (ahead u : W) : movedE ahead u ≤ ahead.length := by
  have := (lcp_le ahead.reverse (tailE u ahead.length).reverse).1
  rw [List.length_reverse] at this
  exact this
theorem moved_drop {ahead u : W} (h : u ≠ []) : ahead.drop (ahead.length - movedE ahead u) = tailE u (movedE ahead u) := by
  have hle := movedE_le ahead u
  have e := lcp_take ahead.reverse (tailE u ahead.length).reverse _ (Nat.le_refl _)
  rw [List.take_reverse, List.take_reverse] at e
  have e2 := List.reverse_inj.mp e
  rw [tailE_len h] at e2
  rw [← tailE_drop h hle]
  exact e2
theorem lcp_next : ∀ (a b : W), lcp a b < a.length → lcp a b < b.length → a[lcp a b]? ≠ b[lcp a b]?
  | [], b, h, _ => by simp at h
  | _ :: _, [], _, h => by simp at h
  | x :: xs, y :: ys, h1, h2 => by
    unfold lcp at h1 h2 ⊢
    by_cases e : x = y
    · rw [if_pos e] at h1 h2 ⊢
      rw [List.getElem?_cons_succ, List.getElem?_cons_succ]
      exact lcp_next xs ys (by simpa using h1) (by simpa using h2)
    · rw [if_neg e]
      simp [e]
theorem moved_next {ahead u : W} (h : u ≠ []) (hk : movedE ahead u < ahead.length) : (ahead.take (ahead.length - movedE ahead u)).getLast? ≠ (rotR u (movedE ahead u)).getLast? := by
  rw [rotR_last h hk, List.getLast?_eq_getElem?, List.length_take, Nat.min_eq_left (by omega), List.getElem?_take_of_lt (by omega)]
  have := lcp_next ahead.reverse (tailE u ahead.length).reverse (by rw [List.length_reverse]; exact hk) (by rw [List.length_reverse, tailE_len h]; exact hk)
  rw [List.getElem?_reverse (by exact hk), List.getElem?_reverse (by rw [tailE_len h]; exact hk), tailE_len h] at this
  have e : ahead.length - movedE ahead u - 1 = ahead.length - 1 - movedE ahead u := by omega
  rw [e]
  exact this
theorem moved_zero {ahead u : W} (h : u ≠ []) (ha : ahead ≠ []) (hl : ahead.getLast? ≠ u.getLast?) : movedE ahead u = 0 := by
  have n0 := List.length_pos_iff.mpr ha
  have u0 := List.length_pos_iff.mpr h
  by_cases z : movedE ahead u = 0
  · exact z
  exfalso
  apply hl
  have e := moved_drop (ahead := ahead) h
  have hle := movedE_le ahead u
  rw [List.getLast?_eq_getElem?, List.getLast?_eq_getElem?]
  have h1 : (ahead.drop (ahead.length - movedE ahead u))[movedE ahead u - 1]? = (tailE u (movedE ahead u))[movedE ahead u - 1]? := by rw [e]
  rw [List.getElem?_drop, tailE_get h (by omega)] at h1
  rw [show ahead.length - 1 = ahead.length - movedE ahead u + (movedE ahead u - 1) by omega, h1]
  congr 1
  have h2 := Nat.mod_add_div (movedE ahead u) u.length
  have h4 := Nat.mod_lt (movedE ahead u) u0
  have := mod_of (a := movedE ahead u - 1 + (u.length - movedE ahead u % u.length)) (b := u.length - 1) (L := u.length) (x := 0) (y := movedE ahead u / u.length) (by omega)
  rw [this, Nat.mod_eq_of_lt (show u.length - 1 < u.length by omega)]
end NM

set_option linter.all false
set_option maxRecDepth 100000
/-! normal lists of pieces: the program's steps as functions, and what they keep -/
namespace NM
open WM
abbrev F := List Nat
abbrev Pn := W × F
def isOpen (f : F) : Bool := f.tail.any fun x => decide (x ≠ 0)
def isPow (p : Pn) : Bool := decide (p.2.headD 0 = 0)
def one1 (m : Nat) : F := 1 :: List.replicate m 0
def fixP (w : W) (m : Nat) : Pn := (w, one1 m)
def addF (f g : F) : F := List.zipWith (fun x y => x + y) f g
def timesF (k : Nat) (f : F) : F := f.map fun x => k * x
def joinF (acc : List Pn) (w : W) (m : Nat) : List Pn :=
  match acc.getLast? with
  | some q => if isPow q then (if w = [] then acc else acc ++ [fixP w m]) else (if q.1 ++ w = [] then acc.dropLast else acc.dropLast ++ [fixP (q.1 ++ w) m])
  | none => if w = [] then acc else acc ++ [fixP w m]
/-- a power, behind what is no fixed piece -/
def pushP (acc : List Pn) (u : W) (f : F) : List Pn :=
  match acc.getLast? with
  | some q => if isPow q ∧ q.1 = u then acc.dropLast ++ [(u, addF q.2 f)] else acc ++ [(u, f)]
  | none => acc ++ [(u, f)]
def putP (acc : List Pn) (u : W) (f : F) : List Pn :=
  match acc.getLast? with
  | some q => if isPow q then joinF (pushP acc u f) [] (f.length - 1)
    else joinF (pushP (joinF acc.dropLast (q.1.take (q.1.length - movedE q.1 u)) (f.length - 1)) (rotR u (movedE q.1 u)) f) (q.1.drop (q.1.length - movedE q.1 u)) (f.length - 1)
  | none => joinF (pushP acc u f) [] (f.length - 1)
def stepA (acc : List Pn) (p : Pn) : List Pn := if p.1 ≠ [] ∧ isOpen p.2 then putP acc (p.1.take (rootN p.1)) (timesF (p.1.length / rootN p.1) (0 :: p.2.tail)) else acc
def stepB (acc : List Pn) (p : Pn) : List Pn := if p.1 ≠ [] ∧ p.2.headD 0 ≠ 0 then joinF acc (pw p.1 (p.2.headD 0)) (p.2.length - 1) else acc
def stepN (acc : List Pn) (p : Pn) : List Pn := stepB (stepA acc p) p
def normL (ps : List Pn) : List Pn := ps.foldl stepN []

/-! ### what is written at a point -/
def dot : List Nat → List Nat → Nat
  | x :: xs, y :: ys => x * y + dot xs ys
  | _, _ => 0
def valF (f : F) (pt : List Nat) : Nat := f.headD 0 + dot f.tail pt
def wrt (pt : List Nat) (p : Pn) : W := pw p.1 (valF p.2 pt)
def wr (pt : List Nat) : List Pn → W
  | [] => []
  | p :: r => wrt pt p ++ wr pt r
theorem wr_app (pt : List Nat) : ∀ a b, wr pt (a ++ b) = wr pt a ++ wr pt b
  | [], b => rfl
  | p :: r, b => by rw [List.cons_append, wr, wr, wr_app pt r b, List.append_assoc]
theorem wr_one (pt : List Nat) (p : Pn) : wr pt [p] = wrt pt p := by rw [wr, wr, List.append_nil]
theorem dot_zero : ∀ (m : Nat) (pt : List Nat), dot (List.replicate m 0) pt = 0
  | 0, _ => by simp [dot]
  | m + 1, [] => by simp [dot, List.replicate_succ]
  | m + 1, y :: ys => by rw [List.replicate_succ, dot, dot_zero m ys]; simp
theorem val_one (m : Nat) (pt : List Nat) : valF (one1 m) pt = 1 := by
  unfold valF one1
  simp [dot_zero]
theorem pw_one (w : W) : pw w 1 = w := by rw [pw_succ, pw_zero, List.append_nil]
theorem wrt_fix (pt : List Nat) (w : W) (m : Nat) : wrt pt (fixP w m) = w := by
  unfold wrt fixP
  rw [val_one, pw_one]
theorem last_split {α : Type} {l : List α} {q : α} (h : l.getLast? = some q) : l = l.dropLast ++ [q] := by
  obtain ⟨ne, e⟩ := List.getLast?_eq_some_iff.mp h
  subst e
  simp
theorem dot_add : ∀ (f g pt : List Nat), f.length = g.length → dot (List.zipWith (fun x y => x + y) f g) pt = dot f pt + dot g pt
  | [], [], _, _ => by simp [dot]
  | _ :: _, [], _, h => by simp at h
  | [], _ :: _, _, h => by simp at h
  | x :: f, y :: g, [], _ => by simp [dot]
  | x :: f, y :: g, z :: pt, h => by
    rw [List.zipWith_cons_cons, dot, dot, dot, dot_add f g pt (by simpa using h), Nat.add_mul]
    omega
theorem val_add {f g : F} (pt : List Nat) (h : f.length = g.length) : valF (addF f g) pt = valF f pt + valF g pt := by
  cases f with
  | nil =>
    cases g with
    | nil => simp [valF, addF, dot]
    | cons _ _ => simp at h
  | cons x f =>
    cases g with
    | nil => simp at h
    | cons y g =>
      unfold valF addF
      rw [List.zipWith_cons_cons]
      simp only [List.headD_cons, List.tail_cons]
      rw [dot_add f g pt (by simpa using h)]
      omega
theorem dot_times (k : Nat) : ∀ (f pt : List Nat), dot (f.map fun x => k * x) pt = k * dot f pt
  | [], _ => by simp [dot]
  | x :: f, [] => by simp [dot]
  | x :: f, y :: pt => by rw [List.map_cons, dot, dot, dot_times k f pt, Nat.mul_add, Nat.mul_assoc]
theorem val_times (k : Nat) (f : F) (pt : List Nat) : valF (timesF k f) pt = k * valF f pt := by
  cases f with
  | nil => simp [valF, timesF, dot]
  | cons x f =>
    unfold valF timesF
    rw [List.map_cons]
    simp only [List.headD_cons, List.tail_cons]
    rw [dot_times, Nat.mul_add]
/-- forms as they stand in a list for m unknowns -/
def LenF (m : Nat) (ps : List Pn) : Prop := ∀ p ∈ ps, p.2.length = m + 1
/-- the fixed pieces have the form of one -/
def FixOk (m : Nat) (ps : List Pn) : Prop := ∀ p ∈ ps, isPow p = false → p.2 = one1 m
theorem isPow_fix (w : W) (m : Nat) : isPow (fixP w m) = false := rfl
theorem wr_joinF {acc : List Pn} {m : Nat} (h : FixOk m acc) (w : W) (pt : List Nat) : wr pt (joinF acc w m) = wr pt acc ++ w := by
  unfold joinF
  split
  · next q hq =>
    have e := last_split hq
    have mem : q ∈ acc := List.mem_of_getLast? hq
    split
    · split
      · next z => rw [z, List.append_nil]
      · rw [wr_app, wr_one, wrt_fix]
    · next np =>
      have f1 := h q mem (by simpa using np)
      have wq : wrt pt q = q.1 := by unfold wrt; rw [f1, val_one, pw_one]
      have ew : wr pt acc = wr pt acc.dropLast ++ q.1 := by
        conv => lhs; rw [e]
        rw [wr_app, wr_one, wq]
      split
      · next z =>
        rw [ew]
        have z1 := (List.append_eq_nil_iff.mp z).1
        have z2 := (List.append_eq_nil_iff.mp z).2
        rw [z1, z2, List.append_nil, List.append_nil]
      · rw [wr_app, wr_one, wrt_fix, ew, List.append_assoc]
  · split
    · next z => rw [z, List.append_nil]
    · rw [wr_app, wr_one, wrt_fix]
theorem wr_pushP {acc : List Pn} {m : Nat} (h : LenF m acc) {u : W} {f : F} (hf : f.length = m + 1) (pt : List Nat) : wr pt (pushP acc u f) = wr pt acc ++ wrt pt (u, f) := by
  unfold pushP
  split
  · next q hq =>
    have e := last_split hq
    have mem : q ∈ acc := List.mem_of_getLast? hq
    split
    · next z =>
      have ew : wr pt acc = wr pt acc.dropLast ++ wrt pt q := by
        conv => lhs; rw [e]
        rw [wr_app, wr_one]
      rw [wr_app, wr_one, ew, List.append_assoc]
      congr 1
      show pw u (valF (addF q.2 f) pt) = pw q.1 (valF q.2 pt) ++ pw u (valF f pt)
      rw [val_add pt (by rw [h q mem, hf]), pw_add, z.2]
    · rw [wr_app, wr_one]
  · rw [wr_app, wr_one]

/-! ### the fold's facts -/
theorem get_dropLast {α : Type} {l : List α} {i : Nat} {x : α} (h : l.dropLast[i]? = some x) : l[i]? = some x := by
  rw [List.getElem?_dropLast] at h
  split at h
  · exact h
  · cases h
theorem mem_dropLast {α : Type} {l : List α} {x : α} (h : x ∈ l.dropLast) : x ∈ l := List.dropLast_subset _ h
structure NormP (m : Nat) (p : Pn) : Prop where
  ne : p.1 ≠ []
  len : p.2.length = m + 1
  fix : isPow p = false → p.2 = one1 m
  pow : isPow p = true → Prim p.1 ∧ isOpen p.2 = true
structure Adj (p q : Pn) : Prop where
  fix : isPow p = false → isPow q = true ∧ p.1.getLast? ≠ q.1.getLast?
  pow : isPow p = true → isPow q = true → p.1 ≠ q.1
structure Nm (m : Nat) (ps : List Pn) : Prop where
  all : ∀ p ∈ ps, NormP m p
  adj : ∀ i p q, ps[i]? = some p → ps[i + 1]? = some q → Adj p q
theorem Nm.nil {m : Nat} : Nm m [] := ⟨fun p h => absurd h List.not_mem_nil, fun i p q h => by simp at h⟩
theorem Nm.init {m : Nat} {l : List Pn} (h : Nm m l) : Nm m l.dropLast :=
  ⟨fun p hp => h.all p (mem_dropLast hp), fun i p q hp hq => h.adj i p q (get_dropLast hp) (get_dropLast hq)⟩
theorem Nm.snoc {m : Nat} {l : List Pn} {p : Pn} (h : Nm m l) (hp : NormP m p) (ha : ∀ q, l.getLast? = some q → Adj q p) : Nm m (l ++ [p]) := by
  refine ⟨fun q hq => ?_, fun i a b hi hj => ?_⟩
  · rcases List.mem_append.mp hq with z | z
    · exact h.all q z
    · rw [List.mem_singleton.mp z]
      exact hp
  · by_cases z : i + 1 < l.length
    · rw [List.getElem?_append_left (by omega)] at hi
      rw [List.getElem?_append_left z] at hj
      exact h.adj i a b hi hj
    · by_cases y : i + 1 = l.length
      · rw [List.getElem?_append_left (by omega)] at hi
        rw [List.getElem?_append_right (by omega), y, Nat.sub_self] at hj
        cases hj
        refine ha a ?_
        rw [List.getLast?_eq_getElem?, ← hi]
        congr 1
        omega
      · rw [List.getElem?_append_right (by omega), List.getElem?_eq_none (by simp; omega)] at hj
        cases hj
/-- the piece ahead of the last one -/
theorem Nm.pre {m : Nat} {l : List Pn} {p q : Pn} (h : Nm m l) (hp : l.getLast? = some p) (hq : l.dropLast.getLast? = some q) : Adj q p := by
  rw [List.getLast?_eq_getElem?] at hp hq
  have hq' := get_dropLast hq
  rw [List.length_dropLast] at hq'
  have hl := (List.getElem?_eq_some_iff.mp hq).1
  rw [List.length_dropLast] at hl
  refine h.adj (l.length - 1 - 1) q p hq' ?_
  rw [← hp]
  congr 1
  omega
theorem fixP_norm {m : Nat} {w : W} (h : w ≠ []) : NormP m (fixP w m) := ⟨h, by simp [fixP, one1], fun _ => rfl, fun z => by cases z⟩
/-- a fixed word behind a normal list -/
theorem nm_joinF {m : Nat} {acc : List Pn} (h : Nm m acc) (w : W) : Nm m (joinF acc w m) := by
  unfold joinF
  split
  · next q hq =>
    split
    · next pq =>
      split
      · exact h
      · next ne =>
        refine h.snoc (fixP_norm ne) fun q' hq' => ?_
        rw [hq] at hq'
        cases hq'
        exact ⟨fun z => (by rw [pq] at z; cases z), fun _ z => (by cases z)⟩
    · next pq =>
      split
      · exact h.init
      · next ne =>
        refine h.init.snoc (fixP_norm ne) fun q' hq' => ?_
        have a := h.pre hq hq'
        have pq' : isPow q = false := by simpa using pq
        exact ⟨fun z => (by have := (a.fix z).1; rw [pq'] at this; cases this), fun _ z => (by cases z)⟩
  · next hn =>
    split
    · exact h
    · next ne =>
      refine h.snoc (fixP_norm ne) fun q' hq' => ?_
      rw [hn] at hq'
      cases hq'
theorem isOpen_iff {f : F} : isOpen f = true ↔ ∃ x ∈ f.tail, x ≠ 0 := by
  unfold isOpen
  rw [List.any_eq_true]
  constructor
  · rintro ⟨x, hx, h⟩
    exact ⟨x, hx, by simpa using h⟩
  · rintro ⟨x, hx, h⟩
    exact ⟨x, hx, by simpa using h⟩
theorem open_add {f g : F} (hl : f.length = g.length) (h : isOpen g = true) : isOpen (addF f g) = true := by
  obtain ⟨x, hx, h0⟩ := isOpen_iff.mp h
  refine isOpen_iff.mpr ?_
  cases f with
  | nil =>
    cases g with
    | nil => cases hx
    | cons _ _ => simp at hl
  | cons a f =>
    cases g with
    | nil => simp at hl
    | cons b g =>
      obtain ⟨i, hi⟩ := List.getElem?_of_mem (show x ∈ g from hx)
      have hi2 := (List.getElem?_eq_some_iff.mp hi).1
      have hf : i < f.length := by simp at hl; omega
      refine ⟨f[i] + x, ?_, by omega⟩
      refine List.mem_of_getElem? (i := i) ?_
      show (List.zipWith (fun x y => x + y) f g)[i]? = _
      rw [List.getElem?_zipWith, List.getElem?_eq_getElem hf, hi]
theorem len_add {f g : F} (hl : f.length = g.length) : (addF f g).length = g.length := by
  unfold addF
  rw [List.length_zipWith]
  omega
theorem head_add {f g : F} (hl : f.length = g.length) (h1 : f.headD 0 = 0) (h2 : g.headD 0 = 0) : (addF f g).headD 0 = 0 := by
  cases f with
  | nil => simp [addF]
  | cons a f =>
    cases g with
    | nil => simp at hl
    | cons b g =>
      simp only [List.headD_cons] at h1 h2
      show a + b = 0
      omega
theorem pow_norm {m : Nat} {u : W} {f : F} (hu : Prim u) (hl : f.length = m + 1) (h0 : f.headD 0 = 0) (ho : isOpen f = true) : NormP m (u, f) ∧ isPow (u, f) = true := by
  have e : isPow (u, f) = true := decide_eq_true h0
  exact ⟨⟨hu.1, hl, fun z => (by rw [e] at z; cases z), fun _ => ⟨hu, ho⟩⟩, e⟩
/-- a power behind what does not end with its last letter -/
theorem nm_pushP {m : Nat} {acc : List Pn} (h : Nm m acc) {u : W} {f : F} (hu : Prim u) (hl : f.length = m + 1) (h0 : f.headD 0 = 0) (ho : isOpen f = true)
    (hx : ∀ q, acc.getLast? = some q → isPow q = false → q.1.getLast? ≠ u.getLast?) : Nm m (pushP acc u f) ∧ ∃ g, (pushP acc u f).getLast? = some (u, g) ∧ isPow (u, g) = true := by
  obtain ⟨np, pp⟩ := pow_norm hu hl h0 ho
  unfold pushP
  split
  · next q hq =>
    have mq := h.all q (List.mem_of_getLast? hq)
    split
    · next z =>
      obtain ⟨z1, z2⟩ := z
      have lq : q.2.length = f.length := by rw [mq.len, hl]
      have hq0 : q.2.headD 0 = 0 := of_decide_eq_true z1
      obtain ⟨np2, pp2⟩ := pow_norm (m := m) (f := addF q.2 f) hu (by rw [len_add lq, hl]) (head_add lq hq0 h0) (open_add lq ho)
      refine ⟨h.init.snoc np2 fun q' hq' => ?_, _, by simp, pp2⟩
      have a := h.pre hq hq'
      exact ⟨fun y => ⟨pp2, by have := (a.fix y).2; rw [z2] at this; exact this⟩, fun y _ => by have := a.pow y z1; rw [z2] at this; exact this⟩
    · next z =>
      refine ⟨h.snoc np fun q' hq' => ?_, _, by simp, pp⟩
      rw [hq] at hq'
      cases hq'
      exact ⟨fun y => ⟨pp, hx q hq y⟩, fun y _ e => z ⟨y, e⟩⟩
  · next hn =>
    refine ⟨h.snoc np fun q' hq' => ?_, _, by simp, pp⟩
    rw [hn] at hq'
    cases hq'
theorem joinF_nil {acc : List Pn} {q : Pn} {m : Nat} (h : acc.getLast? = some q) (hp : isPow q = true) : joinF acc [] m = acc := by
  unfold joinF
  rw [h]
  simp [hp]
theorem nm_putP {m : Nat} {acc : List Pn} (h : Nm m acc) {u : W} {f : F} (hu : Prim u) (hl : f.length = m + 1) (h0 : f.headD 0 = 0) (ho : isOpen f = true) : Nm m (putP acc u f) := by
  have em : f.length - 1 = m := by omega
  unfold putP
  rw [em]
  split
  · next q hq =>
    split
    · next pq =>
      exact nm_joinF (nm_pushP h hu hl h0 ho fun q' hq' z => by rw [hq] at hq'; cases hq'; rw [pq] at z; cases z).1 _
    · next pq =>
      have pq' : isPow q = false := by simpa using pq
      refine nm_joinF (nm_pushP (nm_joinF h.init _) (prim_rotR hu _) hl h0 ho fun q' hq' z => ?_).1 _
      by_cases e : q.1.take (q.1.length - movedE q.1 u) = []
      · -- nothing is left of the fixed piece: what is ahead is a power
        exfalso
        rw [e] at hq'
        have : joinF acc.dropLast [] m = acc.dropLast := by
          cases hd : acc.dropLast.getLast? with
          | none =>
            unfold joinF
            rw [hd]
            simp
          | some r =>
            have a := h.pre hq hd
            have pr : isPow r = true := by
              cases y : isPow r with
              | true => rfl
              | false =>
                have := (a.fix y).1
                rw [pq'] at this
                cases this
            exact joinF_nil hd pr
        rw [this] at hq'
        have a := h.pre hq hq'
        have := (a.fix z).1
        rw [pq'] at this
        cases this
      · have lt : movedE q.1 u < q.1.length := by
          have := List.length_pos_iff.mpr e
          rw [List.length_take] at this
          omega
        have eq : joinF acc.dropLast (q.1.take (q.1.length - movedE q.1 u)) m = acc.dropLast ++ [fixP (q.1.take (q.1.length - movedE q.1 u)) m] := by
          unfold joinF
          split
          · next r hr =>
            have a := h.pre hq hr
            have pr : isPow r = true := by
              cases y : isPow r with
              | true => rfl
              | false =>
                have := (a.fix y).1
                rw [pq'] at this
                cases this
            rw [if_pos pr, if_neg e]
          · rw [if_neg e]
        rw [eq] at hq'
        rw [List.getLast?_append] at hq'
        cases hq'
        exact moved_next hu.1 lt
  · next hn =>
    exact nm_joinF (nm_pushP h hu hl h0 ho fun q' hq' => by rw [hn] at hq'; cases hq').1 _
theorem open_times {k : Nat} (hk : 0 < k) {f : F} (h : isOpen f = true) : isOpen (timesF k (0 :: f.tail)) = true := by
  obtain ⟨x, hx, h0⟩ := isOpen_iff.mp h
  refine isOpen_iff.mpr ⟨k * x, List.mem_map.mpr ⟨x, hx, rfl⟩, ?_⟩
  have := Nat.mul_pos hk (Nat.pos_of_ne_zero h0)
  omega
theorem root_times {w : W} (h : w ≠ []) : 0 < w.length / rootN w := Nat.div_pos (rootN_le h) (rootN_pos h)
theorem nm_stepA {m : Nat} {acc : List Pn} (h : Nm m acc) {p : Pn} (hl : p.2.length = m + 1) : Nm m (stepA acc p) := by
  unfold stepA
  split
  · next z =>
    refine nm_putP h (root_prim z.1) ?_ ?_ (open_times (root_times z.1) z.2)
    · unfold timesF
      simp [hl]
    · simp [timesF]
  · exact h
theorem nm_stepB {m : Nat} {acc : List Pn} (h : Nm m acc) {p : Pn} (hl : p.2.length = m + 1) : Nm m (stepB acc p) := by
  unfold stepB
  split
  · have e : p.2.length - 1 = m := by omega
    rw [e]
    exact nm_joinF h _
  · exact h
theorem nm_fold {m : Nat} : ∀ (ps acc : List Pn), Nm m acc → LenF m ps → Nm m (ps.foldl stepN acc)
  | [], _, h, _ => h
  | p :: r, acc, h, hl => nm_fold r _ (nm_stepB (nm_stepA h (hl p List.mem_cons_self)) (hl p List.mem_cons_self)) fun q hq => hl q (List.mem_cons_of_mem _ hq)
theorem nm_normL {m : Nat} {ps : List Pn} (h : LenF m ps) : Nm m (normL ps) := nm_fold ps [] .nil h
theorem Nm.lenF {m : Nat} {ps : List Pn} (h : Nm m ps) : LenF m ps := fun p hp => (h.all p hp).len
theorem Nm.fixOk {m : Nat} {ps : List Pn} (h : Nm m ps) : FixOk m ps := fun p hp => (h.all p hp).fix
/-! ### what is written stays -/
theorem wr_putP {m : Nat} {acc : List Pn} (h : Nm m acc) {u : W} {f : F} (hu : Prim u) (hl : f.length = m + 1) (h0 : f.headD 0 = 0) (ho : isOpen f = true) (pt : List Nat) : wr pt (putP acc u f) = wr pt acc ++ wrt pt (u, f) := by
  have em : f.length - 1 = m := by omega
  have one : ∀ {acc : List Pn}, Nm m acc → (∀ q, acc.getLast? = some q → isPow q = true) → wr pt (joinF (pushP acc u f) [] m) = wr pt acc ++ wrt pt (u, f) := fun {acc} h hp => by
    obtain ⟨n, g, hg, pg⟩ := nm_pushP h hu hl h0 ho fun q' hq' z => by rw [hp q' hq'] at z; cases z
    rw [joinF_nil hg pg, wr_pushP h.lenF hl]
  unfold putP
  rw [em]
  split
  · next q hq =>
    split
    · next pq => exact one h fun q' hq' => by rw [hq] at hq'; cases hq'; exact pq
    · next pq =>
      have pq' : isPow q = false := by simpa using pq
      have e := last_split hq
      have mq := h.all q (List.mem_of_getLast? hq)
      have wq : wrt pt q = q.1 := by unfold wrt; rw [mq.fix pq', val_one, pw_one]
      have n1 := nm_joinF h.init (q.1.take (q.1.length - movedE q.1 u)) (m := m)
      have n2 : Nm m (putP acc u f) := nm_putP h hu hl h0 ho
      have l2 : FixOk m (pushP (joinF acc.dropLast (q.1.take (q.1.length - movedE q.1 u)) m) (rotR u (movedE q.1 u)) f) := by
        intro p hp z
        unfold pushP at hp
        have pr : isPow (rotR u (movedE q.1 u), f) = true := decide_eq_true h0
        split at hp
        · next r hr =>
          split at hp
          · next y =>
            rcases List.mem_append.mp hp with x | x
            · exact n1.fixOk p (mem_dropLast x) z
            · rw [List.mem_singleton.mp x] at z
              have : isPow (rotR u (movedE q.1 u), addF r.2 f) = true := decide_eq_true (head_add (by rw [n1.lenF r (List.mem_of_getLast? hr), hl]) (of_decide_eq_true y.1) h0)
              rw [this] at z
              cases z
          · rcases List.mem_append.mp hp with x | x
            · exact n1.fixOk p x z
            · rw [List.mem_singleton.mp x, pr] at z
              cases z
        · rcases List.mem_append.mp hp with x | x
          · exact n1.fixOk p x z
          · rw [List.mem_singleton.mp x, pr] at z
            cases z
      rw [wr_joinF l2, wr_pushP n1.lenF hl, wr_joinF h.init.fixOk]
      have ew : wr pt acc = wr pt acc.dropLast ++ q.1 := by
        conv => lhs; rw [e]
        rw [wr_app, wr_one, wq]
      rw [ew, moved_drop hu.1]
      have mv := move_pw u (movedE q.1 u) (valF f pt)
      rw [List.append_assoc, List.append_assoc, List.append_assoc]
      congr 1
      show q.1.take _ ++ (pw (rotR u (movedE q.1 u)) (valF f pt) ++ tailE u (movedE q.1 u)) = q.1 ++ pw u (valF f pt)
      rw [mv, ← moved_drop hu.1, ← List.append_assoc, List.take_append_drop]
  · next hn => exact one h fun q' hq' => by rw [hn] at hq'; cases hq'
theorem pw_mul (w : W) (a : Nat) : ∀ b, pw (pw w a) b = pw w (a * b)
  | 0 => by simp [pw]
  | b + 1 => by rw [pw_succ, pw_mul w a b, ← pw_add, Nat.mul_succ, Nat.add_comm]
theorem pw_nil (n : Nat) : pw [] n = [] := List.length_eq_zero_iff.mp (by rw [pw_len]; simp)
theorem val_split (f : F) (pt : List Nat) : valF f pt = valF (0 :: f.tail) pt + f.headD 0 := by
  unfold valF
  simp
  omega
theorem dot_closed : ∀ {f : List Nat}, (∀ x ∈ f, x = 0) → ∀ pt : List Nat, dot f pt = 0
  | [], _, _ => by simp [dot]
  | x :: f, h, [] => by simp [dot]
  | x :: f, h, y :: pt => by
    rw [dot, dot_closed (fun z hz => h z (List.mem_cons_of_mem _ hz)) pt, h x List.mem_cons_self]
    simp
theorem wr_stepN {m : Nat} {acc : List Pn} (h : Nm m acc) {p : Pn} (hl : p.2.length = m + 1) (pt : List Nat) : wr pt (stepN acc p) = wr pt acc ++ wrt pt p := by
  have hA := nm_stepA h hl
  have wA : wr pt (stepA acc p) = wr pt acc ++ pw p.1 (valF (0 :: p.2.tail) pt) := by
    unfold stepA
    split
    · next z =>
      have lt : (timesF (p.1.length / rootN p.1) (0 :: p.2.tail)).length = m + 1 := by unfold timesF; simp [hl]
      rw [wr_putP h (root_prim z.1) lt (by simp [timesF]) (open_times (root_times z.1) z.2)]
      congr 1
      show pw (p.1.take (rootN p.1)) (valF (timesF _ _) pt) = _
      rw [val_times, ← pw_mul, ← root_pw z.1]
    · next z =>
      by_cases ne : p.1 = []
      · rw [ne, pw_nil, List.append_nil]
      · have hc : ∀ x ∈ p.2.tail, x = 0 := fun x hx => Classical.byContradiction fun y => z ⟨ne, isOpen_iff.mpr ⟨x, hx, y⟩⟩
        rw [show valF (0 :: p.2.tail) pt = 0 by unfold valF; simp [dot_closed hc], pw_zero, List.append_nil]
  have wB : wr pt (stepB (stepA acc p) p) = wr pt (stepA acc p) ++ pw p.1 (p.2.headD 0) := by
    unfold stepB
    split
    · have e : p.2.length - 1 = m := by omega
      rw [e, wr_joinF hA.fixOk]
    · next z =>
      by_cases ne : p.1 = []
      · rw [ne, pw_nil, List.append_nil]
      · have : p.2.headD 0 = 0 := Classical.byContradiction fun y => z ⟨ne, y⟩
        rw [this, pw_zero, List.append_nil]
  unfold stepN
  rw [wB, wA, List.append_assoc, ← pw_add, ← val_split]
  rfl
theorem wr_fold {m : Nat} (pt : List Nat) : ∀ (ps acc : List Pn), Nm m acc → LenF m ps → wr pt (ps.foldl stepN acc) = wr pt acc ++ wr pt ps
  | [], acc, _, _ => by simp [wr]
  | p :: r, acc, h, hl => by
    have lp := hl p List.mem_cons_self
    rw [List.foldl_cons, show stepN acc p = stepB (stepA acc p) p from rfl, wr_fold pt r _ (nm_stepB (nm_stepA h lp) lp) (fun q hq => hl q (List.mem_cons_of_mem _ hq)), show stepB (stepA acc p) p = stepN acc p from rfl, wr_stepN h lp, List.append_assoc]
    rfl
/-- the normal list writes the same -/
theorem wr_normL {m : Nat} {ps : List Pn} (h : LenF m ps) (pt : List Nat) : wr pt (normL ps) = wr pt ps := wr_fold pt ps [] .nil h
end NM

set_option linter.all false
set_option maxRecDepth 100000
namespace NM
open WM
/-! ### the measure -/
def measP (p : Pn) : Nat := p.1.length * (p.2.headD 0 + (if isOpen p.2 then 1 else 0))
def meas (ps : List Pn) : Nat := (ps.map measP).sum
theorem meas_app (a b : List Pn) : meas (a ++ b) = meas a + meas b := by unfold meas; rw [List.map_append, List.sum_append]
theorem meas_one (p : Pn) : meas [p] = measP p := by simp [meas]
theorem open_one (m : Nat) : isOpen (one1 m) = false := by
  unfold isOpen one1
  rw [List.any_eq_false]
  intro x hx
  have := List.eq_of_mem_replicate (show x ∈ List.replicate m 0 from hx)
  simp [this]
theorem measP_fix (w : W) (m : Nat) : measP (fixP w m) = w.length := by
  unfold measP fixP
  simp only [open_one]
  simp [one1]
theorem meas_last {l : List Pn} {q : Pn} (h : l.getLast? = some q) : meas l = meas l.dropLast + measP q := by
  conv => lhs; rw [last_split h]
  rw [meas_app, meas_one]
theorem meas_joinF {m : Nat} {acc : List Pn} (h : FixOk m acc) (w : W) : meas (joinF acc w m) = meas acc + w.length := by
  unfold joinF
  split
  · next q hq =>
    split
    · split
      · next z => rw [z]; rfl
      · rw [meas_app, meas_one, measP_fix]
    · next np =>
      have f1 := h q (List.mem_of_getLast? hq) (by simpa using np)
      have mq : measP q = q.1.length := by
        have : q = fixP q.1 m := by unfold fixP; rw [← f1]
        conv => lhs; rw [this]
        rw [measP_fix]
      have ml := meas_last hq
      split
      · next z =>
        have z1 := congrArg List.length z
        rw [List.length_append, List.length_nil] at z1
        omega
      · rw [meas_app, meas_one, measP_fix, List.length_append]
        omega
  · split
    · next z => rw [z]; rfl
    · rw [meas_app, meas_one, measP_fix]
theorem measP_pow {u : W} {f : F} (h0 : f.headD 0 = 0) : measP (u, f) ≤ u.length := by
  unfold measP
  simp only [h0, Nat.zero_add]
  split
  · rw [Nat.mul_one]
    exact Nat.le_refl _
  · rw [Nat.mul_zero]
    exact Nat.zero_le _
theorem meas_pushP {acc : List Pn} {u : W} {f : F} (h0 : f.headD 0 = 0) (hx : ∀ q, acc.getLast? = some q → isPow q = true → q.1 = u → (addF q.2 f).headD 0 = 0 ∧ u.length ≤ measP q) : meas (pushP acc u f) ≤ meas acc + u.length := by
  unfold pushP
  split
  · next q hq =>
    have ml := meas_last hq
    split
    · next z =>
      obtain ⟨a, b⟩ := hx q hq z.1 z.2
      have := measP_pow (u := u) a
      rw [meas_app, meas_one]
      omega
    · have := measP_pow (u := u) h0
      rw [meas_app, meas_one]
      omega
  · have := measP_pow (u := u) h0
    rw [meas_app, meas_one]
    omega
theorem measP_le {m : Nat} {q : Pn} (h : NormP m q) : q.1.length ≤ measP q := by
  unfold measP
  cases e : isPow q with
  | false =>
    rw [h.fix e]
    simp [one1]
    exact Nat.le_mul_of_pos_right _ (by omega)
  | true =>
    rw [if_pos (h.pow e).2]
    exact Nat.le_mul_of_pos_right _ (by omega)
theorem meas_pushN {m : Nat} {acc : List Pn} (h : Nm m acc) {u : W} {f : F} (hl : f.length = m + 1) (h0 : f.headD 0 = 0) : meas (pushP acc u f) ≤ meas acc + u.length :=
  meas_pushP h0 fun q hq pq e => by
    have nq := h.all q (List.mem_of_getLast? hq)
    refine ⟨head_add (by rw [nq.len, hl]) (of_decide_eq_true pq) h0, ?_⟩
    rw [← e]
    exact measP_le nq
theorem fix_pushP {m : Nat} {acc : List Pn} (h : Nm m acc) {u : W} {f : F} (hl : f.length = m + 1) (h0 : f.headD 0 = 0) : FixOk m (pushP acc u f) := by
  intro p hp z
  unfold pushP at hp
  have pr : isPow (u, f) = true := decide_eq_true h0
  split at hp
  · next r hr =>
    split at hp
    · next y =>
      rcases List.mem_append.mp hp with x | x
      · exact h.fixOk p (mem_dropLast x) z
      · rw [List.mem_singleton.mp x] at z
        have : isPow (u, addF r.2 f) = true := decide_eq_true (head_add (by rw [h.lenF r (List.mem_of_getLast? hr), hl]) (of_decide_eq_true y.1) h0)
        rw [this] at z
        cases z
    · rcases List.mem_append.mp hp with x | x
      · exact h.fixOk p x z
      · rw [List.mem_singleton.mp x, pr] at z
        cases z
  · rcases List.mem_append.mp hp with x | x
    · exact h.fixOk p x z
    · rw [List.mem_singleton.mp x, pr] at z
      cases z
theorem meas_putP {m : Nat} {acc : List Pn} (h : Nm m acc) {u : W} {f : F} (hl : f.length = m + 1) (h0 : f.headD 0 = 0) : meas (putP acc u f) ≤ meas acc + u.length := by
  have em : f.length - 1 = m := by omega
  have one : ∀ {acc : List Pn}, Nm m acc → meas (joinF (pushP acc u f) [] m) ≤ meas acc + u.length := fun {acc} h => by
    rw [meas_joinF (fix_pushP h hl h0)]
    exact meas_pushN h hl h0
  unfold putP
  rw [em]
  split
  · next q hq =>
    split
    · exact one h
    · next pq =>
      have pq' : isPow q = false := by simpa using pq
      have mq := h.all q (List.mem_of_getLast? hq)
      have e : measP q = q.1.length := by
        have : q = fixP q.1 m := by unfold fixP; rw [← mq.fix pq']
        conv => lhs; rw [this]
        rw [measP_fix]
      have ml := meas_last hq
      have n1 := nm_joinF h.init (q.1.take (q.1.length - movedE q.1 u)) (m := m)
      rw [meas_joinF (fix_pushP n1 hl h0)]
      have a := meas_pushN n1 (u := rotR u (movedE q.1 u)) hl h0
      rw [meas_joinF h.init.fixOk, List.length_take, rotR_len] at a
      rw [List.length_drop]
      have := movedE_le q.1 u
      omega
  · exact one h
theorem meas_stepN {m : Nat} {acc : List Pn} (h : Nm m acc) {p : Pn} (hl : p.2.length = m + 1) : meas (stepN acc p) ≤ meas acc + measP p := by
  have hA := nm_stepA h hl
  have a : meas (stepA acc p) ≤ meas acc + p.1.length * (if isOpen p.2 then 1 else 0) := by
    unfold stepA
    split
    · next z =>
      have lt : (timesF (p.1.length / rootN p.1) (0 :: p.2.tail)).length = m + 1 := by unfold timesF; simp [hl]
      have := meas_putP h (u := p.1.take (rootN p.1)) lt (by simp [timesF])
      rw [if_pos z.2]
      rw [List.length_take] at this
      omega
    · omega
  have b : meas (stepB (stepA acc p) p) ≤ meas (stepA acc p) + p.1.length * p.2.headD 0 := by
    unfold stepB
    split
    · have e : p.2.length - 1 = m := by omega
      rw [e, meas_joinF hA.fixOk, pw_len]
      exact Nat.le_refl _
    · omega
  unfold stepN measP
  rw [Nat.mul_add]
  omega
theorem meas_fold {m : Nat} : ∀ (ps acc : List Pn), Nm m acc → LenF m ps → meas (ps.foldl stepN acc) ≤ meas acc + meas ps
  | [], acc, _, _ => by simp [meas]
  | p :: r, acc, h, hl => by
    have lp := hl p List.mem_cons_self
    have a := meas_stepN h lp
    have b := meas_fold r (stepN acc p) (nm_stepB (nm_stepA h lp) lp) fun q hq => hl q (List.mem_cons_of_mem _ hq)
    rw [List.foldl_cons]
    have : meas (p :: r) = measP p + meas r := by simp [meas]
    omega
theorem meas_normL {m : Nat} {ps : List Pn} (h : LenF m ps) : meas (normL ps) ≤ meas ps := by
  have := meas_fold ps [] (Nm.nil (m := m)) h
  unfold normL
  have e : meas [] = 0 := rfl
  omega
/-! ### a normal list stays -/
theorem joinF_app {m : Nat} {acc : List Pn} {w : W} (hw : w ≠ []) (h : ∀ q, acc.getLast? = some q → isPow q = true) : joinF acc w m = acc ++ [fixP w m] := by
  unfold joinF
  split
  · next q hq => rw [if_pos (h q hq), if_neg hw]
  · rw [if_neg hw]
theorem pushP_app {acc : List Pn} {u : W} {f : F} (h : ∀ q, acc.getLast? = some q → ¬ (isPow q = true ∧ q.1 = u)) : pushP acc u f = acc ++ [(u, f)] := by
  unfold pushP
  split
  · next q hq => rw [if_neg (h q hq)]
  · rfl
theorem prim_root {w : W} (h : Prim w) : rootN w = w.length := h.2 _ (rootN_pos h.1) (rootN_dvd w) (rootN_per w)
theorem times_one {f : F} (h : f.headD 0 = 0) (hl : 0 < f.length) : timesF 1 (0 :: f.tail) = f := by
  cases f with
  | nil => simp at hl
  | cons a f =>
    simp only [List.headD_cons] at h
    subst h
    simp [timesF]
theorem step_fix {m : Nat} {l : List Pn} {p : Pn} (h : Nm m l) (hp : NormP m p) (ha : ∀ q, l.getLast? = some q → Adj q p) : stepN l p = l ++ [p] := by
  cases e : isPow p with
  | false =>
    have f1 := hp.fix e
    have ep : fixP p.1 m = p := by unfold fixP; rw [← f1]
    have no : isOpen p.2 = false := by rw [f1, open_one]
    have h1 : p.2.headD 0 = 1 := by rw [f1]; rfl
    have eA : stepA l p = l := by
      unfold stepA
      rw [if_neg fun z => by rw [no] at z; exact Bool.false_ne_true z.2]
    unfold stepN
    rw [eA]
    unfold stepB
    rw [if_pos ⟨hp.ne, by rw [h1]; decide⟩, h1, pw_one, show p.2.length - 1 = m by rw [hp.len]; rfl, joinF_app hp.ne fun q hq => ?_, ep]
    cases y : isPow q with
    | true => rfl
    | false =>
      have := ((ha q hq).fix y).1
      rw [e] at this
      cases this
  | true =>
    obtain ⟨pr, op⟩ := hp.pow e
    have h0 : p.2.headD 0 = 0 := of_decide_eq_true e
    have n0 := List.length_pos_iff.mpr hp.ne
    have eA : stepA l p = putP l p.1 p.2 := by
      unfold stepA
      rw [if_pos ⟨hp.ne, op⟩, prim_root pr, List.take_length, Nat.div_self n0, times_one h0 (by rw [hp.len]; omega)]
    have eB : ∀ acc, stepB acc p = acc := fun acc => by
      unfold stepB
      rw [if_neg fun z => z.2 h0]
    have last : ∀ l : List Pn, (l ++ [p]).getLast? = some p := fun l => by simp
    unfold stepN
    rw [eB, eA]
    unfold putP
    rw [show p.2.length - 1 = m by rw [hp.len]; rfl]
    split
    · next q hq =>
      have a := ha q hq
      split
      · next pq =>
        rw [pushP_app fun q' hq' => by rw [hq] at hq'; cases hq'; exact fun z => a.pow pq e z.2]
        exact joinF_nil (last l) e
      · next pq =>
        have pq' : isPow q = false := by simpa using pq
        have mq := h.all q (List.mem_of_getLast? hq)
        have mz : movedE q.1 p.1 = 0 := moved_zero hp.ne mq.ne (a.fix pq').2
        have el : joinF l.dropLast q.1 m = l := by
          rw [joinF_app mq.ne fun r hr => ?_]
          · have : fixP q.1 m = q := by unfold fixP; rw [← mq.fix pq']
            rw [this]
            exact (last_split hq).symm
          · have b := h.pre hq hr
            cases y : isPow r with
            | true => rfl
            | false =>
              have := (b.fix y).1
              rw [pq'] at this
              cases this
        rw [mz, Nat.sub_zero, List.take_length, List.drop_length, rotR_zero, el, pushP_app fun q' hq' => by rw [hq] at hq'; cases hq'; exact fun z => pq z.1]
        exact joinF_nil (last l) e
    · next hn =>
      rw [pushP_app fun q' hq' => by rw [hn] at hq'; cases hq']
      exact joinF_nil (last l) e
theorem Nm.take {m : Nat} {l : List Pn} (h : Nm m l) (i : Nat) : Nm m (l.take i) := by
  refine ⟨fun p hp => h.all p (List.mem_of_mem_take hp), fun j p q hj hq => ?_⟩
  rw [List.getElem?_take] at hj hq
  split at hq
  · split at hj
    · exact h.adj j p q hj hq
    · cases hj
  · cases hq
theorem normL_take {m : Nat} {ps : List Pn} (h : Nm m ps) : ∀ i, i ≤ ps.length → normL (ps.take i) = ps.take i
  | 0, _ => by simp [normL]
  | i + 1, hi => by
    have hp := List.getElem?_eq_getElem (show i < ps.length by omega)
    generalize ps[i] = p at hp
    have e : ps.take (i + 1) = ps.take i ++ [p] := by rw [List.take_succ, hp]; rfl
    rw [e]
    unfold normL
    rw [List.foldl_append]
    have := normL_take h i (by omega)
    unfold normL at this
    rw [this]
    refine step_fix (h.take i) (h.all p (List.mem_of_getElem? hp)) fun q hq => ?_
    rw [List.getLast?_eq_getElem?, List.length_take, Nat.min_eq_left (by omega)] at hq
    rw [List.getElem?_take] at hq
    split at hq
    · refine h.adj (i - 1) q p hq ?_
      rw [show i - 1 + 1 = i by omega]
      exact hp
    · cases hq
/-- a normal list is its own -/
theorem normL_id {m : Nat} {ps : List Pn} (h : Nm m ps) : normL ps = ps := by
  have := normL_take h ps.length (Nat.le_refl _)
  rw [List.take_length] at this
  exact this
end NM

set_option Elab.async false
set_option linter.all false
set_option maxRecDepth 100000
set_option maxHeartbeats 2000000
namespace K59
open PySem PySem.Spec PyProof.Rows L2 CK SX NM
/-! ### letters -/
def Low (w : List Nat) : Prop := ∀ c ∈ w, 97 ≤ c ∧ c ≤ 122
theorem low_cases {c : Nat} (h : 97 ≤ c ∧ c ≤ 122) : Unicode.isAlpha c = true ∧ Unicode.isLower c = true ∧ (Unicode.isUpper c || Unicode.isTitle c) = false := by
  have : c ∈ List.range' 97 26 := by
    rw [List.mem_range']
    exact ⟨c - 97, by omega, by omega⟩
  have all : (List.range' 97 26).all (fun c => Unicode.isAlpha c && Unicode.isLower c && !(Unicode.isUpper c || Unicode.isTitle c)) = true := by decide +kernel
  have := List.all_eq_true.mp all c this
  simp only [Bool.and_eq_true, Bool.not_eq_true'] at this
  exact ⟨this.1.1, this.1.2, this.2⟩
theorem low_ascii {w : List Nat} (h : Low w) : Txt.isascii (S w) = true := by
  unfold Txt.isascii
  rw [← Array.all_toList, List.all_eq_true]
  exact fun c hc => decide_eq_true (by have := h c hc; omega)
theorem low_alpha {w : List Nat} (h : Low w) (ne : w ≠ []) : Txt.isalpha (S w) = true := by
  unfold Txt.isalpha
  rw [← Array.all_toList, S_len, decide_eq_true (List.length_pos_iff.mpr ne), Bool.true_and, List.all_eq_true]
  exact fun c hc => (low_cases (h c hc)).1
theorem low_lower {w : List Nat} (h : Low w) (ne : w ≠ []) : Txt.islower (S w) = true := by
  unfold Txt.islower
  rw [← Array.any_toList, ← Array.any_toList, Bool.and_eq_true]
  constructor
  · obtain ⟨c, hc⟩ := List.exists_mem_of_ne_nil w ne
    exact List.any_eq_true.mpr ⟨c, hc, (low_cases (h c hc)).2.1⟩
  · rw [Bool.not_eq_true', List.any_eq_false]
    exact fun c hc => by rw [(low_cases (h c hc)).2.2]; exact Bool.false_ne_true
section
variable {P : Program} {w : World} {K : PySem.W.Frag} {mg : Str → Option Value} {base : Heap} {C E_InvalidText E_InvalidNumber E_TooMany E_CountError : Addr}
/-! ### checks -/
def sp_is_whole : Sp := fun vs H Q _ => ∃ v, vs = [v] ∧ Kn H v ∧ Q (.bl (isW v)) H
theorem c_is_whole (T : Txt K mg C E_InvalidText E_InvalidNumber E_TooMany E_CountError) : C8.Cal P w K mg base 1 "is_whole" sp_is_whole [] := by
  refine calF T.d_is_whole sc_is_whole (fun vs H Q E h => ?_) (fun f cdv A outer s H vs Q E hr h => ?_)
  · obtain ⟨v, rfl, _⟩ := h; rfl
  · obtain ⟨v, rfl, k, q⟩ := h
    refine ⟨_, (pss_one (ps_ret (pe_and (pe_callB call_isK (by rfl) T.m_isinstance (by decide +kernel) (pa_cons (pv 0) (pa_cons (pe_bltn (v := .ty "int") (by rfl) T.m_int (by decide +kernel) rfl) pa_nil))) (pe_one (pe_not (pe_callB call_isK (by rfl) T.m_isinstance (by decide +kernel) (pa_cons (pv 0) (pa_cons (pe_bltn (v := .ty "bool") (by rfl) T.m_bool (by decide +kernel) rfl) pa_nil)))))))), ?_⟩
    refine ⟨v, rfl, v, "int", _, rfl, k, kit_int k, _, rfl, ite2 (fun e => ?_) (fun e => ?_)⟩
    · refine ⟨v, rfl, v, "bool", _, rfl, k, kit_bool k, _, rfl, ?_⟩
      rw [show (!isBo v) = isW v by cases v <;> first | rfl | (exact absurd e Bool.false_ne_true)]
      exact q
    · rw [show false = isW v by cases v <;> first | rfl | (exact absurd rfl e)]
      exact q
def sp_is_count : Sp := fun vs H Q _ => ∃ v, vs = [v] ∧ Kn H v ∧ Q (.bl (isC v)) H
theorem c_is_count (T : Txt K mg C E_InvalidText E_InvalidNumber E_TooMany E_CountError) : C8.Cal P w K mg base 2 "is_count" sp_is_count [] := by
  refine calF T.d_is_count sc_is_count (fun vs H Q E h => ?_) (fun f cdv A outer s H vs Q E hr h => ?_)
  · obtain ⟨v, rfl, _⟩ := h; rfl
  · obtain ⟨v, rfl, k, q⟩ := h
    refine ⟨_, (pss_one (ps_ret (pe_and (C8.pe_c (c_is_whole T) hr (by decide) (by rfl) (pa_cons (pv 0) pa_nil)) (pe_one (pe_cmpR op_ge (pv 0) pe_int (nomark _)))))), ?_⟩
    refine ⟨v, rfl, v, rfl, k, _, rfl, ite2 (fun e => ?_) (fun e => ?_)⟩
    · cases v <;> first | (exact absurd e Bool.false_ne_true) | exact ⟨_, rfl, _, 0, rfl, rfl, q⟩
    · rw [show false = isC v by cases v <;> first | rfl | (exact absurd rfl e)]
      exact q
def sp_is_within : Sp := fun vs H Q _ => ∃ i lo hi : Int, vs = [.int i, .int lo, .int hi] ∧ Q (.bl (decide (lo ≤ i) && decide (i ≤ hi))) H
theorem c_is_within (T : Txt K mg C E_InvalidText E_InvalidNumber E_TooMany E_CountError) : C8.Cal P w K mg base 2 "is_within" sp_is_within [] := by
  refine calF T.d_is_within sc_is_within (fun vs H Q E h => ?_) (fun f cdv A outer s H vs Q E hr h => ?_)
  · obtain ⟨i, lo, hi, rfl, _⟩ := h; rfl
  · obtain ⟨i, lo, hi, rfl, q⟩ := h
    refine ⟨_, (pss_one (ps_ret (pe_and (C8.pe_c (c_is_whole T) hr (by decide) (by rfl) (pa_cons (pv 0) pa_nil)) (pe_one (pe_chain op_le op_le (pv 1) (pv 0) (pv 2)))))), ?_⟩
    refine ⟨.int i, rfl, .int i, rfl, .int i, _, rfl, iteT ?_⟩
    refine ⟨_, rfl, _, rfl, lo, i, rfl, rfl, _, rfl, ite2 (fun e => ?_) (fun e => ?_)⟩
    · refine ⟨_, rfl, i, hi, rfl, rfl, ?_⟩
      rw [e, Bool.true_and] at q
      exact q
    · rw [Bool.not_eq_true] at e
      rw [e, Bool.false_and] at q
      exact q
def sp_need_within : Sp := fun vs H Q _ => ∃ i lo hi : Int, vs = [.int i, .int lo, .int hi] ∧ lo ≤ i ∧ i ≤ hi ∧ Q .non H
theorem xc_need_within (T : Txt K mg C E_InvalidText E_InvalidNumber E_TooMany E_CountError) : CalX P w K mg base 3 "need_within" sp_need_within := by
  refine calX T.d_need_within sc_need_within (fun vs H Q E h => ?_) (fun f cdv A outer s H vs Q E hr h => ?_)
  · obtain ⟨i, lo, hi, rfl, _⟩ := h; rfl
  · obtain ⟨i, lo, hi, rfl, h1, h2, q⟩ := h
    refine ⟨_, (pss_one (ps_if (pt_not (pt_val (C8.pe_c (c_is_within T) hr (by decide) (by rfl) (pa_cons (pv 0) (pa_cons (pv 1) (pa_cons (pv 2) pa_nil))))))
    (pss_one (ps_raiseE T.x_InvalidNumber rfl (takes_of rfl rfl rfl rfl) hr (by decide) (by rfl) (pv 0)))
    pss_nil)), ?_⟩
    refine ⟨_, rfl, _, rfl, _, rfl, i, lo, hi, rfl, _, rfl, ?_⟩
    rw [decide_eq_true h1, decide_eq_true h2]
    exact iteF q
theorem c_need_within (T : Txt K mg C E_InvalidText E_InvalidNumber E_TooMany E_CountError) : C8.Cal P w K mg base 3 "need_within" sp_need_within [] := (xc_need_within T).cal
theorem len_line {w : List Nat} (h : w.length ≤ 1000000) : (S w).length ≤ sizeLine := by rw [S_len, sizeLine_eq]; omega
def sp_is_lettered : Sp := fun vs H Q _ => ∃ (z : List Nat) (m : Nat), vs = [.str (S z), .int m] ∧ z.length ≤ 1000000 ∧ Low z ∧ Q (.bl (decide (z.length ≤ m))) H
theorem S_nil {z : List Nat} (h : (S z : Str) = "") : z = [] := by
  have := congrArg Str.length h
  rw [S_len] at this
  exact List.length_eq_zero_iff.mp this
theorem c_is_lettered (T : Txt K mg C E_InvalidText E_InvalidNumber E_TooMany E_CountError) : C8.Cal P w K mg base 1 "is_lettered" sp_is_lettered [] := by
  refine calF T.d_is_lettered sc_is_lettered (fun vs H Q E h => ?_) (fun f cdv A outer s H vs Q E hr h => ?_)
  · obtain ⟨_, _, rfl, _⟩ := h; rfl
  · obtain ⟨z, m, rfl, hl, lw, q⟩ := h
    refine ⟨_, (pss_cons (ps_if (PW.pt (pw_or (pt_not (pt_val (pe_callB call_isK (by rfl) T.m_isinstance (by decide +kernel) (pa_cons (pv 0) (pa_cons (pe_bltn (v := .ty "str") (by rfl) T.m_str (by decide +kernel) rfl) pa_nil))))) (pw_or1 (pt_cmpR op_gt (pe_callB call_len_str (by rfl) T.m_len (by decide +kernel) (pa_cons (pv 0) pa_nil)) (pv 1) (nomark _)))))
    (pss_one (ps_ret pe_bl))
    pss_nil)
    (pss_one (ps_ret (pe_or (pe_cmpR op_eq (pv 0) pe_str (nomark _)) (pe_one (pe_and (pe_m0 PySem.F.slot_str_isascii PySem.F.type_str_isascii mt_isascii (pv 0)) (pe_and (pe_m0 PySem.F.slot_str_isalpha PySem.F.type_str_isalpha mt_isalpha (pv 0)) (pe_one (pe_m0 PySem.F.slot_str_islower PySem.F.type_str_islower mt_islower (pv 0)))))))))), ?_⟩
    refine ⟨_, rfl, .str (S z), "str", true, rfl, .str _, by show kitB "str" "str" = some true; decide +kernel, _, rfl, iteF ?_⟩
    refine ⟨_, rfl, S z, rfl, len_line hl, _, rfl, _, m, rfl, rfl, _, rfl, ?_⟩
    rw [S_len]
    by_cases hm : ¬ z.length ≤ m
    · rw [decide_eq_false hm] at q
      rw [decide_eq_true (show (z.length : Int) > m by omega)]
      exact iteT q
    rw [decide_eq_true (show z.length ≤ m by omega)] at q
    rw [decide_eq_false (show ¬ (z.length : Int) > m by omega)]
    refine iteF ⟨_, rfl, rfl, _, rfl, ite2 (fun e => q) fun e => ?_⟩
    have ne : z ≠ [] := fun y => e (by rw [y]; decide +kernel)
    refine ⟨_, rfl, ⟨_, rfl⟩, _, rfl, rfl, trivial, _, rfl, ?_⟩
    rw [low_ascii lw]
    refine iteT ⟨_, rfl, ⟨_, rfl⟩, _, rfl, rfl, trivial, _, rfl, ?_⟩
    rw [low_alpha lw ne]
    refine iteT ⟨_, rfl, ⟨_, rfl⟩, _, rfl, rfl, trivial, ?_⟩
    rw [low_lower lw ne]
    exact q
def sp_need_many : Sp := fun vs H Q _ => ∃ i : Int, vs = [.int i] ∧ 0 ≤ i ∧ i ≤ 3 ∧ Q .non H
theorem c_need_many (T : Txt K mg C E_InvalidText E_InvalidNumber E_TooMany E_CountError) : C8.Cal P w K mg base 4 "need_many" sp_need_many [] := by
  refine calF T.d_need_many sc_need_many (fun vs H Q E h => ?_) (fun f cdv A outer s H vs Q E hr h => ?_)
  · obtain ⟨v, rfl, _⟩ := h; rfl
  · obtain ⟨i, rfl, h1, h2, q⟩ := h
    refine ⟨_, (pss_one (ps_expr (C8.pe_c (c_need_within T) hr (by decide) (by rfl) (pa_cons (pv 0) (pa_cons pe_int (pa_cons (C8.pe_gc (by rfl) T.k_MOST_UNKNOWNS) pa_nil)))))), ?_⟩
    exact ⟨_, rfl, i, 0, 3, rfl, h1, h2, q⟩
/-- what is_form_for says of a value -/
def formB (H : Hp) (m : Int) : V → Bool
  | .ref a => match H a with
    | some (.tup xs) => decide ((xs.length : Int) = m + 1) && xs.all isC
    | _ => false
  | _ => false
theorem formB_tup {H : Hp} {m : Int} {a : Addr} {xs : List V} (h : H a = some (.tup xs)) : formB H m (.ref a) = (decide ((xs.length : Int) = m + 1) && xs.all isC) := by simp only [formB, h]
def sp_is_form_for : Sp := fun vs H Q _ => ∃ (m : Int) (v : V), vs = [.int m, v] ∧ Kn H v ∧ (∀ a xs, v = .ref a → H a = some (.tup xs) → xs.length < sizeLine ∧ ∀ x ∈ xs, Kn H x) ∧ ∀ H', Same H H' → Q (.bl (formB H m v)) H'
theorem c_is_form_for (T : Txt K mg C E_InvalidText E_InvalidNumber E_TooMany E_CountError) : C8.Cal P w K mg base 3 "is_form_for" sp_is_form_for [] := by
  refine calF T.d_is_form_for sc_is_form_for (fun vs H Q E h => ?_) (fun f cdv A outer s H vs Q E hr h => ?_)
  · obtain ⟨_, _, rfl, _⟩ := h; rfl
  · obtain ⟨m, v, rfl, kn, ht, q⟩ := h
    refine ⟨_, (pss_one (ps_ret (pe_and (pe_callB call_isK (by rfl) T.m_isinstance (by decide +kernel) (pa_cons (pv 1) (pa_cons (pe_bltn (v := .ty "tuple") (by rfl) T.m_tuple (by decide +kernel) rfl) pa_nil))) (pe_and (pe_cmpR op_eq (pe_callB call_len_seq (by rfl) T.m_len (by decide +kernel) (pa_cons (pv 1) pa_nil)) (pe_op op_add (pv 0) pe_int) (nomark _)) (pe_one (pe_callB (cr_all rfl) (by rfl) T.m_all (by decide +kernel) (pa_cons (pe_lc (own := [("number", 2)]) (by rfl) sc_is_form_for.nd (pi_tup (pv 1)) (blkOk_by (N := ["many", "value", "number"]) (sc := C8.fnScope (topS 17)) (own := [("number", 2)]) (by decide +kernel)) (fun _ _ _ _ _ => (pg_name (i := 2) sc_is_form_for.nd rfl (Or.inl rfl))) (fun _ _ _ _ _ => pts_nil) (fun _ _ _ _ _ => (C8.pe_c (c_is_count T) hr (by decide) (by rfl) (pa_cons (pv 2) pa_nil)))) pa_nil))))))), ?_⟩
    refine ⟨_, rfl, v, "tuple", _, rfl, kn, kit_tuple kn, _, rfl, ite2 (fun e => ?_) (fun e => ?_)⟩
    · cases kn <;> first | (exact absurd e Bool.false_ne_true) | skip
      · rename_i a xs ha
        simp only [isTu, ha] at e
        exact absurd e (by decide)
      · rename_i a xs ha
        obtain ⟨hl, hk⟩ := ht a xs rfl ha
        rw [formB_tup ha] at q
        refine ⟨_, rfl, a, xs, rfl, .inr (.inl (.inl ha)), _, rfl, _, _, rfl, rfl, rfl, _, rfl, ite2 (fun e => ?_) (fun e => ?_)⟩
        · have e' : (xs.length : Int) = m + 1 := V.int.inj (of_decide_eq_true e)
          rw [decide_eq_true e', Bool.true_and] at q
          refine ⟨_, rfl, a, rfl, ⟨xs, .inl (.inl ha)⟩, ?_⟩
          refine fun D hD => lcT_map (fun x => .bl (isC x)) ha hl (fun i x H' R hx s q' => ?_) hD fun H' s hL => ?_
          · exact ⟨rfl, x, rfl, x, rfl, (hk x (List.mem_of_getElem? hx)).same s, q' _ (Same.refl _)⟩
          refine ⟨D, xs.map isC, rfl, .inl (.inl (by rw [hL, List.map_map]; rfl)), ?_⟩
          rw [List.all_map]
          exact q H' s
        · have e' : ¬ (xs.length : Int) = m + 1 := fun z => e (by rw [z]; exact decide_eq_true rfl)
          rw [decide_eq_false e', Bool.false_and] at q
          exact q H (Same.refl _)
    · rw [show formB H m v = false by
        cases kn <;> first | rfl | skip
        · rename_i a xs ha
          simp only [formB, ha]
        · rename_i a xs ha
          exact absurd (isTu_tup ha) e] at q
      exact q H (Same.refl _)

theorem kn_nats {H : Hp} {ns : List Nat} : ∀ x ∈ ns.map (fun n : Nat => V.int (n : Nat)), Kn H x := fun x hx => by
  obtain ⟨i, _, rfl⟩ := List.mem_map.mp hx
  exact .int _
/-- a form in the heap -/
def FT (H : Hp) (a : Addr) (f : F) : Prop := H a = some (.tup (f.map fun n : Nat => V.int (n : Nat)))
theorem FT.same {H H' : Hp} {a : Addr} {f : F} (h : FT H a f) (s : Same H H') : FT H' a f := s _ _ h
theorem formB_FT {H : Hp} {m : Nat} {a : Addr} {f : F} (h : FT H a f) (hl : f.length = m + 1) : formB H m (.ref a) = true := by
  rw [formB_tup h, List.length_map, hl, decide_eq_true (show ((m + 1 : Nat) : Int) = (m : Int) + 1 by omega), Bool.true_and, List.all_map, List.all_eq_true]
  exact fun x hx => decide_eq_true (show (0 : Int) ≤ ((x : Nat) : Int) by omega)
end
end K59

set_option Elab.async false
set_option linter.all false
set_option maxRecDepth 100000
set_option maxHeartbeats 4000000
namespace K59
open PySem PySem.Spec PyProof.Rows L2 CK SX NM
theorem re_st {t : TS} {D : Ends} {σ σ' : L2.St} {H : Hp} (e : σ = σ') (h : t D σ' H) : t D σ H := by
  subst e
  exact h
theorem slice_mid {a : List Nat} {i j : Nat} (h : i ≤ j) (hj : j ≤ a.length) : Txt.slice (S a) (some (i : Int)) (some (j : Int)) = S ((a.drop i).take (j - i)) := by
  have e := beq_iff_eq.mp (slice_closesL (x := S a) (i := (i : Int)) (j := (j : Int)) (by omega) (by omega) (by rw [S_len]; omega))
  refine e.trans (TL.ext_tl ?_)
  show (a.drop (i : Int).toNat).take ((j : Int) - (i : Int)).toNat = (a.drop i).take (j - i)
  congr 1
  omega
theorem lcp_mid {a b : WM.W} {lo mid : Nat} (h1 : lo ≤ WM.lcp a b) (h2 : lo ≤ mid) (ha : mid ≤ a.length) (hb : mid ≤ b.length) :
    (a.drop lo).take (mid - lo) = (b.drop lo).take (mid - lo) ↔ mid ≤ WM.lcp a b := by
  have sp : ∀ z : WM.W, z.take mid = z.take lo ++ (z.drop lo).take (mid - lo) := fun z => by
    have : mid = lo + (mid - lo) := by omega
    conv => lhs; rw [this]
    rw [List.take_add]
  rw [← WM.lcp_iff ha hb, sp a, sp b, WM.lcp_take a b lo h1]
  constructor
  · intro h
    rw [h]
  · intro h
    exact List.append_cancel_left h
section
variable {X : Cx}
/-- s * n, up to a million letters -/
theorem op_repM : OpR X (binaryOp .Mult) (fun x y H Q => ∃ (z : List Nat) (n : Nat), x = .str (S z) ∧ y = .int n ∧ n ≤ 1000000 ∧ z.length ≤ 1000000 ∧ n * z.length ≤ 1000000 ∧ Q (.str (S (List.replicate n z).flatten)) H) := by
  intro pins s σ H x y v u Q I rx ry h
  obtain ⟨z, n, rfl, rfl, hn, hz, hm, q⟩ := h
  obtain ⟨t, rfl⟩ := rx
  obtain ⟨t', rfl⟩ := ry
  have hl : (List.replicate n z).flatten.length = n * z.length := by simp
  refine P.mul_str (by simp; omega) (fun h1 h2 => ?_) (fun h1 h2 => ?_) ?_
  · rw [S_len]
    have hn0 : (0 : Int) < n := by omega
    have h3 : (1000000 : Int) ≤ (2 ^ 63 - 1) / (n : Int) := by
      refine (Int.le_ediv_iff_mul_le hn0).mpr ?_
      have : (1000000 : Int) * n ≤ 1000000 * 1000000 := Int.mul_le_mul_of_nonneg_left (by omega) (by decide)
      omega
    omega
  · rw [S_len, Int.toNat_natCast, Nat.mul_comm]
    have : n * z.length ≤ sizeLine := by rw [sizeLine_eq]; omega
    unfold Builtin.Str.tooLong
    simp
    omega
  · by_cases h1 : (n : Int) < 1
    · rw [if_pos h1]
      have e : n = 0 := by omega
      subst e
      exact ⟨by decide, .str _, H, I.tok _, ⟨_, rfl⟩, q⟩
    · rw [if_neg h1]
      by_cases h2 : ((n : Int) == 1 || (S z).length == 0) = true
      · rw [if_pos h2]
        have e : (List.replicate n z).flatten = z := by
          rw [Bool.or_eq_true, beq_iff_eq, beq_iff_eq, S_len] at h2
          rcases h2 with h2 | h2
          · have : n = 1 := by omega
            subst this
            simp
          · rw [List.length_eq_zero_iff.mp h2]
            simp
        rw [e] at q
        exact ⟨.str _, H, I, ⟨_, rfl⟩, q⟩
      · rw [if_neg h2]
        have e : (⟨(List.replicate (n : Int).toNat (S z).cps).foldl (· ++ ·) #[]⟩ : Str) = S (List.replicate n z).flatten := by
          refine TL.ext_tl ?_
          show ((List.replicate (n : Int).toNat (S z).cps).foldl (· ++ ·) #[]).toList = _
          rw [Int.toNat_natCast, foldl_arr]
          rfl
        rw [e]
        exact ⟨by rw [S_len, hl, sizeLine_eq]; omega, .str _, H, I.tok _, ⟨_, rfl⟩, q⟩
end
section
variable {P : Program} {w : World} {K : PySem.W.Frag} {mg : Str → Option Value} {base : Heap} {C E_InvalidText E_InvalidNumber E_TooMany E_CountError : Addr}
/-! ### words -/
theorem fmodZ (i : Int) {n : Nat} (h : n ≠ 0) : ∃ k : Nat, i.fmod (n : Int) = k ∧ k < n := by
  have h0 : 0 ≤ i.fmod (n : Int) := Int.fmod_nonneg_of_pos i (by omega)
  have h1 : i.fmod (n : Int) < n := Int.fmod_lt_of_pos i (by omega)
  exact ⟨(i.fmod n).toNat, by omega, by omega⟩
def rotZ (z : List Nat) (i : Int) : List Nat := z.drop (i.fmod (z.length : Int)).toNat ++ z.take (i.fmod (z.length : Int)).toNat
theorem fmod_neg (k : Nat) {n : Nat} (h : 0 < n) : (-(k : Int)).fmod (n : Int) = (((n - k % n) % n : Nat) : Int) := by
  have hm := Nat.mod_lt k h
  have hd := Nat.mod_add_div k n
  rw [Int.fmod_eq_emod_of_nonneg _ (by omega)]
  have e : (-(k : Int)) = ((n - k % n : Nat) : Int) + (n : Int) * (-((k / n : Nat) : Int) - 1) := by
    have : ((n - k % n : Nat) : Int) = (n : Int) - ((k % n : Nat) : Int) := by omega
    rw [this]
    have h2 : (k : Int) = ((k % n : Nat) : Int) + (n : Int) * ((k / n : Nat) : Int) := by
      have := congrArg (fun z : Nat => (z : Int)) hd
      simp only [Int.natCast_add, Int.natCast_mul] at this
      exact this.symm
    rw [Int.mul_sub, Int.mul_neg, Int.mul_one]
    omega
  rw [e, Int.add_mul_emod_self_left]
  rfl
theorem rotZ_neg {z : List Nat} (h : z ≠ []) (k : Nat) : rotZ z (-(k : Int)) = rotR z k := by
  have n0 := List.length_pos_iff.mpr h
  unfold rotZ rotR
  rw [fmod_neg k n0, Int.toNat_natCast]
  by_cases e : k % z.length = 0
  · rw [e, Nat.sub_zero, Nat.mod_self]
    simp
  · have hm := Nat.mod_lt k n0
    rw [Nat.mod_eq_of_lt (show z.length - k % z.length < z.length by omega)]
def sp_turned : Sp := fun vs H Q _ => ∃ (z : List Nat) (k : Int), vs = [.str (S z), .int k] ∧ z.length ≤ 1000000 ∧ z ≠ [] ∧ Q (.str (S (rotZ z k))) H
theorem c_turned_word (T : Txt K mg C E_InvalidText E_InvalidNumber E_TooMany E_CountError) : C8.Cal P w K mg base 1 "turned_word" sp_turned [] := by
  refine calF T.d_turned_word sc_turned_word (fun vs H Q E h => ?_) (fun f cdv A outer s H vs Q E hr h => ?_)
  · obtain ⟨_, _, rfl, _⟩ := h; rfl
  · obtain ⟨z, k, rfl, hl, ne, q⟩ := h
    have n0 := List.length_pos_iff.mpr ne
    refine ⟨_, (pss_cons (ps_if (pt_not (pt_truth (pv 0) (by intro _; rfl)))
    (pss_one (ps_ret (pv 0)))
    pss_nil)
    (pss_cons (ps_set (i := 2) sc_turned_word.nd rfl (Or.inl rfl) (pe_op op_modN (pv 1) (pe_callB call_len_str (by rfl) T.m_len (by decide +kernel) (pa_cons (pv 0) pa_nil))))
    (pss_one (ps_ret (pe_op op_add_str (pe_slice C8.sl_txt (pv 0) (po_some (pv 2)) po_none) (pe_slice C8.sl_txt (pv 0) po_none (po_some (pv 2)))))))), ?_⟩
    refine ⟨_, rfl, true, ⟨len_line hl, by rw [S_len]; symm; rw [bne_iff_ne]; omega⟩, iteF ?_⟩
    obtain ⟨m, hm, hlt⟩ := fmodZ k (show z.length ≠ 0 by omega)
    refine ⟨_, rfl, _, rfl, S z, rfl, len_line hl, k, z.length, rfl, congrArg (fun n : Nat => V.int n) (S_len z), by omega, ?_⟩
    refine ⟨_, rfl, _, rfl, m, congrArg V.int hm, S z, rfl, len_line hl, _, rfl, _, rfl, m, congrArg V.int hm, S z, rfl, len_line hl, ?_⟩
    rw [SX.slice_from (by omega), SX.slice_to (by omega), Int.toNat_natCast]
    refine ⟨_, _, rfl, rfl, ?_, ?_⟩
    · rw [S_len, S_len, List.length_drop, List.length_take, sizeLine_eq]
      omega
    · rw [S_cat]
      unfold rotZ at q
      rw [hm, Int.toNat_natCast] at q
      exact q
theorem stretch_tail {u : List Nat} (h : u ≠ []) (n k : Nat) (hk : (u.length - n % u.length) % u.length + n ≤ u.length * k) :
    ((List.replicate k u).flatten.drop ((u.length - n % u.length) % u.length)).take n = tailE u n := by
  have n0 := List.length_pos_iff.mpr h
  have l : (List.replicate k u).flatten.length = u.length * k := WM.pw_len u k
  refine List.ext_getElem? fun i => ?_
  by_cases hi : i < n
  · rw [List.getElem?_take_of_lt hi, List.getElem?_drop, tailE_get h hi]
    have := WM.pw_get h k ((u.length - n % u.length) % u.length + i) (by omega)
    unfold WM.pw at this
    rw [this]
    congr 1
    rw [Nat.mod_add_mod, Nat.add_comm]
  · rw [List.getElem?_eq_none (by rw [List.length_take]; omega), List.getElem?_eq_none (by rw [tailE_len h]; omega)]
def sp_stretch : Sp := fun vs H Q _ => ∃ (u : List Nat) (n : Nat), vs = [.str (S u), .int (-(n : Int)), .int n] ∧ u ≠ [] ∧ u.length ≤ 100000 ∧ n ≤ 100000 ∧ Q (.str (S (tailE u n))) H
theorem c_stretch (T : Txt K mg C E_InvalidText E_InvalidNumber E_TooMany E_CountError) : C8.Cal P w K mg base 1 "stretch" sp_stretch [] := by
  refine calF T.d_stretch sc_stretch (fun vs H Q E h => ?_) (fun f cdv A outer s H vs Q E hr h => ?_)
  · obtain ⟨_, _, rfl, _⟩ := h; rfl
  · obtain ⟨u, n, rfl, ne, hu, hn, q⟩ := h
    have n0 := List.length_pos_iff.mpr ne
    refine ⟨_, (pss_cons (ps_set (i := 3) sc_stretch.nd rfl (Or.inl rfl) (pe_op op_modN (pv 1) (pe_callB call_len_str (by rfl) T.m_len (by decide +kernel) (pa_cons (pv 0) pa_nil))))
    (pss_one (ps_ret (pe_slice C8.sl_txt (pe_op op_repM (pv 0) (pe_op op_add (pe_op op_fdivZ (pe_op op_add (pv 3) (pv 2)) (pe_callB call_len_str (by rfl) T.m_len (by decide +kernel) (pa_cons (pv 0) pa_nil))) pe_int)) (po_some (pv 3)) (po_some (pe_op op_add (pv 3) (pv 2))))))), ?_⟩
    have hm := fmod_neg n n0
    generalize ha : (u.length - n % u.length) % u.length = a at hm
    have alt : a < u.length := by rw [← ha]; exact Nat.mod_lt _ n0
    refine ⟨_, rfl, _, rfl, S u, rfl, len_line (by omega), -(n : Int), u.length, rfl, congrArg (fun n : Nat => V.int n) (S_len u), by omega, ?_⟩
    have hdm := Nat.div_add_mod (a + n) u.length
    have hml := Nat.mod_lt (a + n) n0
    have dl : (a + n) / u.length ≤ a + n := Nat.div_le_self _ _
    refine ⟨_, rfl, _, rfl, _, rfl, a, n, congrArg V.int hm, rfl, _, rfl, S u, rfl, len_line (by omega), a + n, u.length, congrArg V.int (by omega), congrArg (fun n : Nat => V.int n) (S_len u), by omega, by omega, _, _, rfl, rfl, u, (a + n) / u.length + 1, rfl, congrArg V.int (by omega), by omega, by omega, ?_, ?_⟩
    · rw [Nat.add_mul, Nat.one_mul, Nat.mul_comm]
      omega
    · have l : (List.replicate ((a + n) / u.length + 1) u).flatten.length = u.length * ((a + n) / u.length + 1) := WM.pw_len u _
      have hle : a + n ≤ u.length * ((a + n) / u.length + 1) := by rw [Nat.mul_succ]; omega
      refine ⟨_, rfl, a, congrArg V.int hm, _, rfl, _, rfl, a, n, congrArg V.int hm, rfl, ((a + n : Nat) : Int), congrArg V.int (by omega), S _, rfl, ?_, ?_⟩
      · rw [S_len, l, Nat.mul_succ, sizeLine_eq]
        omega
      · rw [slice_mid (by omega) (by rw [l]; exact hle), show a + n - a = n by omega, ← ha, stretch_tail ne n _ (by rw [ha]; exact hle)]
        exact q
def sp_alike : Sp := fun vs H Q _ => ∃ (a b : List Nat), vs = [.str (S a), .str (S b)] ∧ a.length ≤ 1000000 ∧ b.length ≤ 1000000 ∧ Q (.int (WM.lcp a b : Nat)) H
theorem c_alike_ahead (T : Txt K mg C E_InvalidText E_InvalidNumber E_TooMany E_CountError) : C8.Cal P w K mg base 1 "alike_ahead" sp_alike [] := by
  refine calF T.d_alike_ahead sc_alike_ahead (fun vs H Q E h => ?_) (fun f cdv A outer s H vs Q E hr h => ?_)
  · obtain ⟨_, _, rfl, _⟩ := h; rfl
  · obtain ⟨a, b, rfl, ha, hb, q⟩ := h
    refine ⟨_, (pss_cons (ps_par (i := 2) (j := 3) (by rfl) sc_alike_ahead.nd rfl rfl (by decide) rfl rfl (pa_cons pe_int (pa_cons (pe_callB (call_min2 rfl) (by rfl) T.m_min (by decide +kernel) (pa_cons (pe_callB call_len_str (by rfl) T.m_len (by decide +kernel) (pa_cons (pv 0) pa_nil)) (pa_cons (pe_callB call_len_str (by rfl) T.m_len (by decide +kernel) (pa_cons (pv 1) pa_nil)) pa_nil))) pa_nil)) (by rfl))
    (pss_cons (ps_if (pt_cmpR op_eq (pe_slice C8.sl_txt (pv 0) po_none (po_some (pv 3))) (pe_slice C8.sl_txt (pv 1) po_none (po_some (pv 3))) (nomark _))
    (pss_one (ps_ret (pv 3)))
    pss_nil)
    (pss_cons (ps_while PassesOwn.never (pt_cmpR op_gt (pe_op op_sub (pv 3) (pv 2)) pe_int (nomark _))
    (pss_cons (ps_set (i := 4) sc_alike_ahead.nd rfl (Or.inl rfl) (pe_op op_fdivZ (pe_op op_add (pv 2) (pv 3)) pe_int))
    (pss_one (ps_if (pt_cmpR op_eq (pe_slice C8.sl_txt (pv 0) (po_some (pv 2)) (po_some (pv 4))) (pe_slice C8.sl_txt (pv 1) (po_some (pv 2)) (po_some (pv 4))) (nomark _))
    (pss_one (ps_set (i := 2) sc_alike_ahead.nd rfl (Or.inl rfl) (pv 4)))
    (pss_one (ps_set (i := 3) sc_alike_ahead.nd rfl (Or.inl rfl) (pv 4)))))))
    (pss_one (ps_ret (pv 2)))))), ?_⟩
    have lle := WM.lcp_le a b
    obtain ⟨m, hma, hmb, hm, hmm⟩ : ∃ m : Nat, m ≤ a.length ∧ m ≤ b.length ∧ (if (((S b).length : Nat) : Int) < (((S a).length : Nat) : Int) then (((S b).length : Nat) : Int) else (((S a).length : Nat) : Int)) = m ∧ (a.length ≤ m ∨ b.length ≤ m) := by
      rw [S_len, S_len]
      by_cases z : (b.length : Int) < a.length
      · exact ⟨b.length, by omega, by omega, if_pos z, .inr (Nat.le_refl _)⟩
      · exact ⟨a.length, by omega, by omega, if_neg z, .inl (Nat.le_refl _)⟩
    refine ⟨_, rfl, S a, rfl, len_line ha, _, rfl, S b, rfl, len_line hb, _, _, rfl, .int 0, .int m, congrArg (fun z => [V.int 0, V.int z]) hm, ?_⟩
    refine ⟨_, rfl, _, rfl, m, rfl, S a, rfl, len_line ha, _, rfl, _, rfl, m, rfl, S b, rfl, len_line hb, rfl, _, rfl, ?_⟩
    rw [SX.slice_to (by omega), SX.slice_to (by omega), Int.toNat_natCast]
    refine ite2 (fun e => ?_) (fun e => ?_)
    · have e' := S_inj (V.str.inj (of_decide_eq_true e))
      have := WM.le_lcp a b m hma hmb e'
      refine ⟨_, rfl, ?_⟩
      rw [show m = WM.lcp a b by omega]
      exact q
    · have e' : WM.lcp a b < m := by
        by_cases z : WM.lcp a b < m
        · exact z
        · exact absurd (decide_eq_true (congrArg (fun l => V.str (S l)) (WM.lcp_take a b m (by omega)))) e
      refine while_by (fun σ H' => H' = H ∧ ∃ (lo hi : Nat) (zl zh : Int) (y : Option V), σ = [some (.str (S a)), some (.str (S b)), some (.int zl), some (.int zh), y] ∧ zl = lo ∧ zh = hi ∧ lo ≤ WM.lcp a b ∧ WM.lcp a b < hi ∧ hi ≤ m)
        (fun σ _ => match σ with | [_, _, some (.int zl), some (.int zh), _] => (zh - zl).toNat | _ => 0) ?_ (fun σ H' p => ?_) ?_
      · exact ⟨rfl, 0, m, _, _, none, rfl, rfl, rfl, Nat.zero_le _, e', Nat.le_refl _⟩
      · obtain ⟨rfl, lo, hi, zl, zh, y, rfl, rfl, rfl, h1, h2, h3⟩ := p
        refine ⟨_, rfl, _, rfl, _, _, rfl, rfl, _, _, rfl, rfl, _, rfl, ite2 (fun c => ?_) (fun c => ?_)⟩
        · have c' : lo + 1 < hi := by
            have := of_decide_eq_true c
            omega
          refine ⟨_, rfl, _, rfl, _, _, rfl, rfl, lo + hi, 2, congrArg V.int (by omega), rfl, by decide, by decide, ?_⟩
          have m1 : lo < (lo + hi) / 2 := by omega
          have m2 : (lo + hi) / 2 < hi := by omega
          generalize (lo + hi) / 2 = md at m1 m2
          refine ⟨_, rfl, _, rfl, lo, rfl, _, rfl, md, rfl, S a, rfl, len_line ha, _, rfl, _, rfl, lo, rfl, _, rfl, md, rfl, S b, rfl, len_line hb, rfl, _, rfl, ?_⟩
          rw [slice_mid (by omega) (by omega), slice_mid (by omega) (by omega)]
          have iff := lcp_mid (a := a) (b := b) (lo := lo) (mid := md) h1 (by omega) (by omega) (by omega)
          refine ite2 (fun d => ?_) (fun d => ?_)
          · have d' := iff.mp (S_inj (V.str.inj (of_decide_eq_true d)))
            refine ⟨_, rfl, ⟨rfl, md, hi, _, _, _, rfl, rfl, rfl, d', h2, h3⟩, ?_⟩
            show ((hi : Int) - ((md : Nat) : Int)).toNat < ((hi : Int) - (lo : Int)).toNat
            omega
          · have d' : WM.lcp a b < md := by
              by_cases z : WM.lcp a b < md
              · exact z
              · exact absurd (decide_eq_true (congrArg (fun l => V.str (S l)) (iff.mpr (by omega)))) d
            refine ⟨_, rfl, ⟨rfl, lo, md, _, _, _, rfl, rfl, rfl, h1, d', by omega⟩, ?_⟩
            show (((md : Nat) : Int) - (lo : Int)).toNat < ((hi : Int) - (lo : Int)).toNat
            omega
        · have c' : lo = WM.lcp a b := by
            have : ¬ ((hi : Int) - lo > 1) := fun z => c (decide_eq_true z)
            omega
          subst c'
          exact ⟨_, rfl, q⟩
      · intro σ H' Q1 Q2 hq h
        obtain ⟨a1, h1, a2, h2, a3, a4, h3, h4, a5, a6, h5, h6, k, h7, h⟩ := h
        exact ⟨a1, h1, a2, h2, a3, a4, h3, h4, a5, a6, h5, h6, k, h7, hq _ _ h⟩
def sp_behind : Sp := fun vs H Q _ => ∃ (a b : List Nat), vs = [.str (S a), .str (S b)] ∧ a.length ≤ 1000000 ∧ b.length ≤ 1000000 ∧ Q (.int (WM.lcp a.reverse b.reverse : Nat)) H
theorem c_alike_behind (T : Txt K mg C E_InvalidText E_InvalidNumber E_TooMany E_CountError) : C8.Cal P w K mg base 2 "alike_behind" sp_behind [] := by
  refine calF T.d_alike_behind sc_alike_behind (fun vs H Q E h => ?_) (fun f cdv A outer s H vs Q E hr h => ?_)
  · obtain ⟨_, _, rfl, _⟩ := h; rfl
  · obtain ⟨a, b, rfl, ha, hb, q⟩ := h
    refine ⟨_, (pss_one (ps_ret (C8.pe_c (c_alike_ahead T) hr (by decide) (by rfl) (pa_cons (pe_revS (pv 0)) (pa_cons (pe_revS (pv 1)) pa_nil))))), ?_⟩
    refine ⟨_, rfl, a, rfl, by rw [sizeLine_eq]; omega, _, rfl, b, rfl, by rw [sizeLine_eq]; omega, a.reverse, b.reverse, rfl, by simpa using ha, by simpa using hb, q⟩
end
end K59

set_option Elab.async false
set_option linter.all false
set_option maxRecDepth 100000
set_option maxHeartbeats 4000000
namespace K59
open PySem PySem.Spec PyProof.Rows L2 CK SX NM
/-- the borders' sizes, up to the place i -/
def szL (z : List Nat) (i : Nat) : List Nat := (List.range z.length).map fun j => if j ≤ i then WM.lb (z.take (j + 1)) else 0
theorem szL_len (z : List Nat) (i : Nat) : (szL z i).length = z.length := by simp [szL]
theorem szL_get {z : List Nat} {i j : Nat} (h : j ≤ i) (hj : j < z.length) : (szL z i)[j]? = some (WM.lb (z.take (j + 1))) := by
  unfold szL
  rw [List.getElem?_map, List.getElem?_range hj]
  simp [h]
theorem szL_zero {z : List Nat} (h : z ≠ []) : szL z 0 = List.replicate z.length 0 := by
  refine List.ext_getElem? fun j => ?_
  unfold szL
  by_cases hj : j < z.length
  · rw [List.getElem?_map, List.getElem?_range hj, List.getElem?_replicate, if_pos hj]
    simp only [Option.map_some]
    split
    · rename_i e
      have : j = 0 := by omega
      subst this
      rw [WM.lb_one]
    · rfl
  · rw [List.getElem?_eq_none (by simp; omega), List.getElem?_eq_none (by simp; omega)]
theorem szL_set {z : List Nat} {i : Nat} (h : i + 1 < z.length) : (szL z i).set (i + 1) (WM.lb (z.take (i + 2))) = szL z (i + 1) := by
  refine List.ext_getElem? fun j => ?_
  by_cases hj : j < z.length
  · rw [List.getElem?_set]
    unfold szL
    by_cases e : i + 1 = j
    · subst e
      rw [if_pos rfl, if_pos (by simp; omega), List.getElem?_map, List.getElem?_range hj]
      simp
    · rw [if_neg e, List.getElem?_map, List.getElem?_map, List.getElem?_range hj]
      simp only [Option.map_some]
      congr 1
      by_cases a : j ≤ i
      · rw [if_pos a, if_pos (by omega)]
      · rw [if_neg a, if_neg (by omega)]
  · rw [List.getElem?_eq_none (by simp [szL]; omega), List.getElem?_eq_none (by simp [szL]; omega)]
def natsV (ns : List Nat) : List V := ns.map fun n : Nat => V.int (n : Nat)
theorem natsV_get {ns : List Nat} {i n : Nat} (h : ns[i]? = some n) : (natsV ns)[i]? = some (.int (n : Nat)) := by
  unfold natsV
  rw [List.getElem?_map, h]
  rfl
theorem natsV_set (ns : List Nat) (i n : Nat) : (natsV ns).set i (.int (n : Nat)) = natsV (ns.set i n) := by
  unfold natsV
  rw [List.map_set]
theorem natsV_len (ns : List Nat) : (natsV ns).length = ns.length := by simp [natsV]
section
variable {P : Program} {w : World} {K : PySem.W.Frag} {mg : Str → Option Value} {base : Heap} {C E_InvalidText E_InvalidNumber E_TooMany E_CountError : Addr}
def sp_border : Sp := fun vs H Q _ => ∃ (z : List Nat), vs = [.str (S z)] ∧ z ≠ [] ∧ z.length ≤ 1000000 ∧ ∀ p H', Same H H' → H p = none → H' p = some (.lst (natsV (szL z (z.length - 1)))) → Q (.ref p) H'
theorem c_border_sizes (T : Txt K mg C E_InvalidText E_InvalidNumber E_TooMany E_CountError) : C8.Cal P w K mg base 1 "border_sizes" sp_border [] := by
  refine calF T.d_border_sizes sc_border_sizes (fun vs H Q E h => ?_) (fun f cdv A outer s H vs Q E hr h => ?_)
  · obtain ⟨_, rfl, _⟩ := h; rfl
  · obtain ⟨z, rfl, ne, hz, q⟩ := h
    have n0 := List.length_pos_iff.mpr ne
    refine ⟨_, (pss_cons (ps_set (i := 1) sc_border_sizes.nd rfl (Or.inl rfl) (pe_op op_rep (pe_lst (pa_cons pe_int pa_nil)) (pe_callB call_len_str (by rfl) T.m_len (by decide +kernel) (pa_cons (pv 0) pa_nil))))
    (pss_cons (ps_set (i := 2) sc_border_sizes.nd rfl (Or.inl rfl) pe_int)
    (pss_cons (ps_for PassesOwn.never rfl (pi_range2 (by rfl) T.m_range (pa_cons pe_int (pa_cons (pe_callB call_len_str (by rfl) T.m_len (by decide +kernel) (pa_cons (pv 0) pa_nil)) pa_nil))) (pg_name (i := 3) sc_border_sizes.nd rfl (Or.inl rfl))
    (pss_cons (ps_while PassesOwn.never (PW.pt (pw_and (pt_truth (pv 2) (by intro _; rfl)) (pw_and1 (pt_cmpR op_ne (pe_ix ix_str (pv 0) (pv 3) (fun _ _ => rfl)) (pe_ix ix_str (pv 0) (pv 2) (fun _ _ => rfl)) (nomark _)))))
    (pss_one (ps_set (i := 2) sc_border_sizes.nd rfl (Or.inl rfl) (pe_ix ix_list (pv 1) (pe_op op_sub (pv 2) pe_int) (fun _ _ => rfl)))))
    (pss_cons (ps_if (pt_cmpR op_eq (pe_ix ix_str (pv 0) (pv 3) (fun _ _ => rfl)) (pe_ix ix_str (pv 0) (pv 2) (fun _ _ => rfl)) (nomark _))
    (pss_one (ps_aug (i := 2) sc_border_sizes.nd rfl (.inl rfl) pe_int ip_add))
    pss_nil)
    (pss_one (ps_asg (pv 2) (pg_sub (pv 1) (pv 3) set_list))))))
    (pss_one (ps_ret (pv 1)))))), ?_⟩
    refine ⟨by show 1 ≤ sizeLine; decide, fun L0 h0 => ⟨_, rfl, S z, rfl, len_line hz, L0, _, _, rfl, rfl, upd_same, by omega, by rw [S_len]; omega, by rw [S_len, sizeLine_eq]; simp; omega, fun p hp => ?_⟩⟩
    have s0 := (sameNew (o := .lst [V.int 0]) h0).trans (sameNew (o := .lst (List.replicate (((S z).length : Nat) : Int).toNat [V.int 0]).flatten) hp)
    have hp0 : H p = none := (sameNew (o := .lst [V.int 0]) h0).free hp
    have e0 : (List.replicate (((S z).length : Nat) : Int).toNat [V.int 0]).flatten = natsV (szL z 0) := by
      rw [S_len, Int.toNat_natCast, szL_zero ne]
      unfold natsV
      rw [List.map_replicate]
      generalize z.length = k
      induction k with
      | zero => rfl
      | succ k ih => rw [List.replicate_succ, List.flatten_cons, ih, List.replicate_succ]; rfl
    rw [e0] at s0 ⊢
    have hpl : (upd (upd H L0 (.lst [V.int 0])) p (.lst (natsV (szL z 0)))) p = some (.lst (natsV (szL z 0))) := upd_same
    generalize upd (upd H L0 (.lst [V.int 0])) p (.lst (natsV (szL z 0))) = H1 at s0 hpl
    refine ⟨_, rfl, S z, rfl, len_line hz, 1, _, rfl, ⟨by omega, by omega, by omega, by rw [S_len]; omega⟩, ?_⟩
    refine for_it walk_range (fun i σ H' => i ≤ z.length - 1 ∧ SameX p H1 H' ∧ H' p = some (.lst (natsV (szL z i))) ∧ ∃ (zs : Int) (y3 : Option V), σ = [some (.str (S z)), some (.ref p), some (.int zs), y3] ∧ zs = ((WM.lb (z.take (i + 1)) : Nat) : Int))
      ⟨by omega, .refl _ _, hpl, 0, none, rfl, by rw [WM.lb_one]; rfl⟩ (fun _ _ _ _ _ => True.intro) (fun i x σ H' H'' hi pI yy => ?_) fun σ H' pI => ?_
    · obtain ⟨_, s1, hl1, zs, y3, rfl, rfl⟩ := pI
      obtain ⟨rfl, rfl⟩ := yy
      have hi' : i + 1 < z.length := by
        have : i < ((((S z).length : Nat) : Int) - 1).toNat := hi
        rw [S_len] at this
        omega
      have zn : z[i + 1]? = some z[i + 1] := List.getElem?_eq_getElem hi'
      generalize z[i + 1] = cn at zn
      have cand0 : WM.Cand z (i + 1) (WM.lb (z.take (i + 1))) := WM.cand_start (by omega) (by omega)
      refine while_by (fun σ H2 => H2 = H'' ∧ ∃ (s' : Nat) (zs : Int), σ = [some (.str (S z)), some (.ref p), some (.int zs), some (.int (1 + (i : Int)))] ∧ zs = s' ∧ WM.Cand z (i + 1) s')
        (fun σ _ => match σ with | [_, _, some (.int zs), _] => zs.toNat | _ => 0) ⟨rfl, _, _, rfl, rfl, cand0⟩ (fun σ H2 pJ => ?_) ?_
      · obtain ⟨rfl, s', zs, rfl, rfl, cand⟩ := pJ
        have slt := cand.1
        have zk : z[s']? = some z[s'] := List.getElem?_eq_getElem (by omega)
        generalize z[s'] = ck at zk
        refine ⟨_, rfl, _, rfl, ?_⟩
        by_cases z0 : s' = 0
        · subst z0
          refine iteF ?_
          refine ⟨_, rfl, _, rfl, S z, 1 + (i : Int), cn, rfl, rfl, len_line hz, ?_, _, rfl, _, rfl, S z, ((0 : Nat) : Int), ck, rfl, rfl, len_line hz, atI_nat (xs := z) zk, rfl, _, rfl, ?_⟩
          · rw [show 1 + (i : Int) = ((i + 1 : Nat) : Int) by omega]
            exact atI_nat (xs := z) zn
          refine ite2 (fun e => ?_) (fun e => ?_)
          · have ec : cn = ck := by
              have := S_inj (a := [cn]) (b := [ck]) (V.str.inj (of_decide_eq_true e))
              simpa using this
            have hit := WM.cand_hit hi' cand (by rw [zk, zn, ec])
            refine ⟨_, rfl, _, _, rfl, rfl, _, rfl, _, rfl, _, rfl, p, _, 1 + (i : Int), i + 1, rfl, rfl, hl1, ?_, ?_⟩
            · unfold ixN
              rw [natsV_len, szL_len, if_pos (by omega), if_pos (by omega)]
              congr 1
              omega
            · refine ⟨by omega, fun b o hb e => by rw [upd_ne hb]; exact s1 b o hb e, ?_, _, _, rfl, by rw [show i + 1 + 1 = i + 2 by omega] at hit ⊢; rw [hit]; rfl⟩
              rw [upd_same]
              have := natsV_set (szL z i) (i + 1) (WM.lb (z.take (i + 2)))
              rw [szL_set hi', show i + 2 = i + 1 + 1 by omega, hit] at this
              rw [← this]
              rfl
          · have nc : z[0]? ≠ z[i + 1]? := by
              rw [zk, zn]
              intro y
              exact e (decide_eq_true (by rw [Option.some.inj y]))
            have miss := WM.cand_miss hi' cand nc
            refine ⟨_, rfl, _, rfl, _, rfl, p, _, 1 + (i : Int), i + 1, rfl, rfl, hl1, ?_, ?_⟩
            · unfold ixN
              rw [natsV_len, szL_len, if_pos (by omega), if_pos (by omega)]
              congr 1
              omega
            · refine ⟨by omega, fun b o hb e => by rw [upd_ne hb]; exact s1 b o hb e, ?_, _, _, rfl, by rw [miss]⟩
              rw [upd_same]
              have := natsV_set (szL z i) (i + 1) (WM.lb (z.take (i + 2)))
              rw [szL_set hi', show i + 2 = i + 1 + 1 by omega, miss] at this
              rw [← this]
        · have tz : ((((s' : Nat) : Int)) != 0) = true := by rw [bne_iff_ne]; omega
          rw [tz]
          refine iteT ?_
          refine ⟨_, rfl, _, rfl, S z, 1 + (i : Int), cn, rfl, rfl, len_line hz, ?_, _, rfl, _, rfl, S z, ((s' : Nat) : Int), ck, rfl, rfl, len_line hz, atI_nat (xs := z) zk, rfl, _, rfl, ?_⟩
          · rw [show 1 + (i : Int) = ((i + 1 : Nat) : Int) by omega]
            exact atI_nat (xs := z) zn
          by_cases ec : cn = ck
          · refine iteNS (by rw [ec]) ?_
            refine ⟨_, rfl, _, rfl, S z, 1 + (i : Int), cn, rfl, rfl, len_line hz, ?_, _, rfl, _, rfl, S z, ((s' : Nat) : Int), ck, rfl, rfl, len_line hz, atI_nat (xs := z) zk, rfl, _, rfl, ?_⟩
            · rw [show 1 + (i : Int) = ((i + 1 : Nat) : Int) by omega]
              exact atI_nat (xs := z) zn
            rw [ec, decide_eq_true rfl]
            have hit := WM.cand_hit hi' cand (by rw [zk, zn, ec])
            refine iteT ⟨_, rfl, _, _, rfl, rfl, _, rfl, _, rfl, _, rfl, p, _, 1 + (i : Int), i + 1, rfl, rfl, hl1, ?_, ?_⟩
            · unfold ixN
              rw [natsV_len, szL_len, if_pos (by omega), if_pos (by omega)]
              congr 1
              omega
            · refine ⟨by omega, fun b o hb e => by rw [upd_ne hb]; exact s1 b o hb e, ?_, _, _, rfl, by rw [show i + 1 + 1 = i + 2 by omega] at hit ⊢; rw [hit]; rfl⟩
              rw [upd_same]
              have := natsV_set (szL z i) (i + 1) (WM.lb (z.take (i + 2)))
              rw [szL_set hi', show i + 2 = i + 1 + 1 by omega, hit] at this
              rw [← this]
              rfl
          · have hd : z[s']? ≠ z[i + 1]? := by
              rw [zk, zn]
              intro y
              exact ec (Option.some.inj y).symm
            have down := WM.cand_down (by omega) cand (by omega) hd
            have : (!decide (V.str (S [cn]) = V.str (S [ck]))) = true := by
              rw [decide_eq_false (fun y => ec (by simpa using S_inj (a := [cn]) (b := [ck]) (V.str.inj y)))]
              rfl
            rw [show (⟨#[cn]⟩ : Str) = S [cn] from rfl, show (⟨#[ck]⟩ : Str) = S [ck] from rfl, this]
            have get := szL_get (z := z) (i := i) (j := s' - 1) (by omega) (by omega)
            rw [show s' - 1 + 1 = s' by omega] at get
            refine iteT ⟨_, rfl, _, rfl, _, _, rfl, rfl, p, _, _, .int ((WM.lb (z.take s') : Nat) : Int), rfl, rfl, .inl (.inl hl1), ?_, ⟨rfl, WM.lb (z.take s'), _, rfl, rfl, down⟩, ?_⟩
            · rw [show ((s' : Nat) : Int) - 1 = ((s' - 1 : Nat) : Int) by omega]
              exact atI_nat (natsV_get get)
            · show (((WM.lb (z.take s') : Nat) : Int)).toNat < (((s' : Nat) : Int)).toNat
              have := WM.lb_lt (w := z.take s') (fun y => by have := congrArg List.length y; rw [List.length_take, List.length_nil] at this; omega)
              rw [List.length_take] at this
              omega
      · intro σ H' Q1 Q2 hq h
        obtain ⟨a1, h1, k, h2, h⟩ := h
        refine ⟨a1, h1, k, h2, ?_⟩
        cases k with
        | false => exact hq _ _ h
        | true =>
          obtain ⟨a1, h1, a2, h2, a3, a4, a5, h3, h4, h5, h6, a6, h7, a7, h8, a8, a9, a10, h9, h10, h11, h12, h13, k, h14, h⟩ := h
          exact ⟨a1, h1, a2, h2, a3, a4, a5, h3, h4, h5, h6, a6, h7, a7, h8, a8, a9, a10, h9, h10, h11, h12, h13, k, h14, hq _ _ h⟩
    · obtain ⟨_, s1, hl1, zs, y3, rfl, rfl⟩ := pI
      have en : ((((S z).length : Nat) : Int) - 1).toNat = z.length - 1 := by rw [S_len]; omega
      rw [en] at hl1
      refine ⟨_, rfl, q p H' (fun b o e => ?_) hp0 hl1⟩
      have hb : b ≠ p := fun y => by rw [y, hp0] at e; cases e
      exact s1 _ _ hb (s0 _ _ e)
def sp_root : Sp := fun vs H Q _ => ∃ (z : List Nat), vs = [.str (S z)] ∧ z ≠ [] ∧ z.length ≤ 1000000 ∧ ∀ H', Same H H' → Q (.int (WM.rootN z : Nat)) H'
theorem c_root_size (T : Txt K mg C E_InvalidText E_InvalidNumber E_TooMany E_CountError) : C8.Cal P w K mg base 2 "root_size" sp_root [] := by
  refine calF T.d_root_size sc_root_size (fun vs H Q E h => ?_) (fun f cdv A outer s H vs Q E hr h => ?_)
  · obtain ⟨_, rfl, _⟩ := h; rfl
  · obtain ⟨z, rfl, ne, hz, q⟩ := h
    have n0 := List.length_pos_iff.mpr ne
    have lt := WM.lb_lt ne
    refine ⟨_, (pss_cons (ps_set (i := 1) sc_root_size.nd rfl (Or.inl rfl) (pe_op op_sub (pe_callB call_len_str (by rfl) T.m_len (by decide +kernel) (pa_cons (pv 0) pa_nil)) (pe_ix ix_list (C8.pe_c (c_border_sizes T) hr (by decide) (by rfl) (pa_cons (pv 0) pa_nil)) (pe_un un_neg pe_int) (fun _ _ => rfl))))
    (pss_one (ps_ret (pe_ifExp (pt_truth (pe_op op_modZ (pe_callB call_len_str (by rfl) T.m_len (by decide +kernel) (pa_cons (pv 0) pa_nil)) (pv 1)) (by intro _; rfl)) (pe_callB call_len_str (by rfl) T.m_len (by decide +kernel) (pa_cons (pv 0) pa_nil)) (pv 1))))), ?_⟩
    refine ⟨_, rfl, S z, rfl, len_line hz, _, rfl, z, rfl, ne, hz, fun p H1 s1 n1 hp => ?_⟩
    have get := szL_get (z := z) (i := z.length - 1) (j := z.length - 1) (Nat.le_refl _) (by omega)
    rw [show z.length - 1 + 1 = z.length by omega, List.take_length] at get
    have e1 : (((S z).length : Nat) : Int) - ((WM.lb z : Nat) : Int) = ((z.length - WM.lb z : Nat) : Int) := by rw [S_len]; omega
    refine ⟨1, rfl, p, _, -1, .int (WM.lb z : Nat), rfl, rfl, .inl (.inl hp), ?_, _, _, rfl, rfl, ?_⟩
    · unfold atI ixN
      rw [natsV_len, szL_len, if_neg (by omega), if_pos (by omega)]
      show (natsV (szL z (z.length - 1)))[((-1 : Int) + z.length).toNat]? = _
      rw [show ((-1 : Int) + z.length).toNat = z.length - 1 by omega]
      exact natsV_get get
    · refine ⟨_, rfl, S z, rfl, len_line hz, _, rfl, z.length, z.length - WM.lb z, congrArg (fun n : Nat => V.int n) (S_len z), congrArg V.int e1, by omega, _, rfl, ?_⟩
      unfold WM.rootN at q
      by_cases m0 : z.length % (z.length - WM.lb z) = 0
      · rw [if_pos m0] at q
        rw [show ((((z.length % (z.length - WM.lb z) : Nat) : Int)) != 0) = false by rw [m0]; rfl]
        refine iteF ⟨_, rfl, ?_⟩
        show Q (V.int ((((S z).length : Nat) : Int) - ((WM.lb z : Nat) : Int))) H1
        rw [e1]
        exact q H1 s1
      · rw [if_neg m0] at q
        rw [show ((((z.length % (z.length - WM.lb z) : Nat) : Int)) != 0) = true by rw [bne_iff_ne]; omega]
        refine iteT ⟨_, rfl, S z, rfl, len_line hz, ?_⟩
        show Q (V.int (((S z).length : Nat) : Int)) H1
        rw [S_len]
        exact q H1 s1
/-! ### forms -/
theorem get_nat {xs : List Nat} {i : Nat} {v : V} (h : (xs.map fun n : Nat => V.int (n : Nat))[i]? = some v) : ∃ z, z ∈ xs ∧ xs[i]? = some z ∧ v = .int (z : Nat) := by
  rw [List.getElem?_map] at h
  cases e : xs[i]? with
  | none => rw [e] at h; cases h
  | some z =>
    rw [e] at h
    exact ⟨z, List.mem_of_getElem? e, rfl, (Option.some.inj h).symm⟩
def vAdd : V → V → V
  | .int i, .int j => .int (i + j)
  | _, _ => .non
theorem zip_addN : ∀ (xs ys : List Nat), List.zipWith vAdd (xs.map fun n : Nat => V.int (n : Nat)) (ys.map fun n : Nat => V.int (n : Nat)) = (addF xs ys).map fun n : Nat => V.int (n : Nat)
  | [], _ => by simp [addF]
  | _ :: _, [] => by simp [addF]
  | x :: xs, y :: ys => by
    show V.int ((x : Int) + (y : Int)) :: _ = V.int ((x + y : Nat) : Int) :: _
    rw [zip_addN xs ys]
    rfl
theorem small5 {n : Nat} (h : n ≤ 5) : n < sizeLine := small1000 (by omega)
def sp_form_sum : Sp := fun vs H Q _ => ∃ (a b : Addr) (f g : F), vs = [.ref a, .ref b] ∧ FT H a f ∧ FT H b g ∧ f.length ≤ 4 ∧ f.length = g.length ∧ ∀ p H', Same H H' → FT H' p (addF f g) → Q (.ref p) H'
theorem c_form_sum (T : Txt K mg C E_InvalidText E_InvalidNumber E_TooMany E_CountError) : C8.Cal P w K mg base 1 "form_sum" sp_form_sum [] := by
  refine calF T.d_form_sum sc_form_sum (fun vs H Q E h => ?_) (fun f cdv A outer s H vs Q E hr h => ?_)
  · obtain ⟨_, _, _, _, rfl, _⟩ := h; rfl
  · obtain ⟨a, b, f, g, rfl, ha, hb, h4, hl, q⟩ := h
    refine ⟨_, (pss_one (ps_ret (pe_callTy call_tupL (by rfl) T.m_tuple (by decide +kernel) (pa_cons (pe_lc (own := [("left", 2), ("right", 3)]) (by rfl) sc_form_sum.nd (pi_zipB (K := K) rfl (by rfl) T.m_zip (pa_cons (pv 0) (pa_cons (pv 1) pa_nil))) (blkOk_by (N := ["one", "other", "left", "right"]) (sc := C8.fnScope (topS 19)) (own := [("left", 2), ("right", 3)]) (by decide +kernel)) (fun _ _ _ _ _ => (pg_two (K := K) (i := 2) (j := 3) rfl rfl sc_form_sum.nd rfl rfl (Or.inl rfl) (Or.inl rfl))) (fun _ _ _ _ _ => pts_nil) (fun _ _ _ _ _ => (pe_op op_add (pv 2) (pv 3)))) pa_nil)))), ?_⟩
    refine ⟨_, rfl, _, rfl, .T, .T, a, b, _, _, rfl, .inl (.inl ha), .inl (.inl hb), ?_⟩
    refine fun D hD => lcZ_map vAdd (by simp; omega) (by rw [List.length_map]; exact small5 (by omega)) (fun H' s => ⟨.inl (.inl (s _ _ ha)), .inl (.inl (s _ _ hb))⟩) (fun i x y H' R hx hy s q' => ?_) hD fun H' s hL => ?_
    · obtain ⟨x', mx, _, rfl⟩ := get_nat hx
      obtain ⟨y', my, _, rfl⟩ := get_nat hy
      exact ⟨rfl, _, rfl, _, rfl, _, _, rfl, rfl, q' _ (Same.refl _)⟩
    · rw [zip_addN] at hL
      exact ⟨D, _, rfl, hL, fun l H2 s2 h2 => q l H2 (s.trans s2) h2⟩
def Bf (f : F) : Prop := ∀ n ∈ f, n < 2 ^ 900
def sp_form_times : Sp := fun vs H Q _ => ∃ (k : Nat) (a : Addr) (f : F), vs = [.int k, .ref a] ∧ FT H a f ∧ f.length ≤ 4 ∧ k < 2 ^ 900 ∧ Bf f ∧ ∀ p H', Same H H' → FT H' p (timesF k f) → Q (.ref p) H'
theorem c_form_times (T : Txt K mg C E_InvalidText E_InvalidNumber E_TooMany E_CountError) : C8.Cal P w K mg base 1 "form_times" sp_form_times [] := by
  refine calF T.d_form_times sc_form_times (fun vs H Q E h => ?_) (fun f cdv A outer s H vs Q E hr h => ?_)
  · obtain ⟨_, _, _, rfl, _⟩ := h; rfl
  · obtain ⟨k, a, f, rfl, ha, h4, hk, bf, q⟩ := h
    refine ⟨_, (pss_one (ps_ret (pe_callTy call_tupL (by rfl) T.m_tuple (by decide +kernel) (pa_cons (pe_lc (own := [("own", 2)]) (by rfl) sc_form_times.nd (pi_tup (pv 1)) (blkOk_by (N := ["number", "form", "own"]) (sc := C8.fnScope (topS 20)) (own := [("own", 2)]) (by decide +kernel)) (fun _ _ _ _ _ => (pg_name (i := 2) sc_form_times.nd rfl (Or.inl rfl))) (fun _ _ _ _ _ => pts_nil) (fun _ _ _ _ _ => (pe_op op_mulW (pv 0) (pv 2)))) pa_nil)))), ?_⟩
    refine ⟨_, rfl, a, rfl, ⟨_, .inl (.inl ha)⟩, ?_⟩
    refine fun D hD => lcT_map (fun x => match x with | .int j => .int ((k : Int) * j) | _ => .non) ha (by rw [List.length_map]; exact small5 (by omega)) (fun i x H' R hx s q' => ?_) hD fun H' s hL => ?_
    · obtain ⟨x', mx, _, rfl⟩ := get_nat hx
      have := bf x' mx
      exact ⟨rfl, _, rfl, _, rfl, _, _, rfl, rfl, wide_mul (a := 900) (b := 900) (by omega) (by omega) (by decide) (by decide) (by decide), q' _ (Same.refl _)⟩
    · refine ⟨D, _, rfl, hL, fun l H2 s2 h2 => q l H2 (s.trans s2) ?_⟩
      unfold FT
      rw [h2, timesF, List.map_map, List.map_map]
      congr 2
end
end K59

set_option Elab.async false
set_option linter.all false
set_option maxRecDepth 100000
set_option maxHeartbeats 4000000
namespace K59
open PySem PySem.Spec PyProof.Rows L2 CK SX NM
/-! ### pieces in the heap -/
def PC (H : Hp) (a : Addr) (p : Pn) : Prop := ∃ fa, H a = some (.tup [.str (S p.1), .ref fa]) ∧ FT H fa p.2
theorem PC.mono {H H' : Hp} {a : Addr} {p : Pn} (h : PC H a p) (s : ∀ a xs, H a = some (.tup xs) → H' a = some (.tup xs)) : PC H' a p := by
  obtain ⟨fa, h1, h2⟩ := h
  exact ⟨fa, s _ _ h1, s _ _ h2⟩
inductive Pcs (H : Hp) : List V → List Pn → Prop
  | nil : Pcs H [] []
  | cons {a : Addr} {vs : List V} {p : Pn} {ps : List Pn} : PC H a p → Pcs H vs ps → Pcs H (.ref a :: vs) (p :: ps)
theorem Pcs.mono {H H' : Hp} {vs : List V} {ps : List Pn} (h : Pcs H vs ps) (s : ∀ a xs, H a = some (.tup xs) → H' a = some (.tup xs)) : Pcs H' vs ps := by
  induction h with
  | nil => exact .nil
  | cons e _ ih => exact .cons (e.mono s) ih
theorem tup_same {H H' : Hp} (s : Same H H') : ∀ a xs, H a = some (.tup xs) → H' a = some (.tup xs) := fun a xs e => s _ _ e
theorem tup_upd {H : Hp} {l : Addr} {xs ys : List V} (hl : H l = some (.lst xs)) : ∀ a zs, H a = some (.tup zs) → (upd H l (.lst ys)) a = some (.tup zs) := fun a zs e => by
  rw [upd_ne (fun z => by rw [z, hl] at e; cases e)]
  exact e
theorem tup_sameX {l : Addr} {H H' : Hp} {xs : List V} (hl : H l = some (.lst xs)) (s : SameX l H H') : ∀ a zs, H a = some (.tup zs) → H' a = some (.tup zs) := fun a zs e =>
  s _ _ (fun z => by rw [z, hl] at e; cases e) e
theorem Pcs.same {H H' : Hp} {vs : List V} {ps : List Pn} (h : Pcs H vs ps) (s : Same H H') : Pcs H' vs ps := h.mono (tup_same s)
theorem Pcs.upd {H : Hp} {vs : List V} {ps : List Pn} {l : Addr} {xs ys : List V} (h : Pcs H vs ps) (hl : H l = some (.lst xs)) : Pcs (upd H l (.lst ys)) vs ps := h.mono (tup_upd hl)
theorem Pcs.len {H : Hp} {vs : List V} {ps : List Pn} (h : Pcs H vs ps) : vs.length = ps.length := by
  induction h with
  | nil => rfl
  | cons _ _ ih => simp [ih]
theorem Pcs.app {H : Hp} {vs us : List V} {ps qs : List Pn} (h : Pcs H vs ps) (g : Pcs H us qs) : Pcs H (vs ++ us) (ps ++ qs) := by
  induction h with
  | nil => exact g
  | cons e _ ih => exact .cons e ih
theorem Pcs.get {H : Hp} {vs : List V} {ps : List Pn} (h : Pcs H vs ps) {i : Nat} {v : V} (hi : vs[i]? = some v) : ∃ a p, v = .ref a ∧ ps[i]? = some p ∧ PC H a p := by
  induction h generalizing i with
  | nil => simp at hi
  | cons e _ ih =>
    cases i with
    | zero =>
      cases hi
      exact ⟨_, _, rfl, rfl, e⟩
    | succ i => exact ih hi
theorem Pcs.init {H : Hp} {vs : List V} {ps : List Pn} (h : Pcs H vs ps) : Pcs H vs.dropLast ps.dropLast := by
  induction h with
  | nil => exact .nil
  | cons e h ih =>
    cases h with
    | nil => exact .nil
    | cons e2 h2 => exact .cons e ih
theorem Pcs.one {H : Hp} {a : Addr} {p : Pn} (e : PC H a p) : Pcs H [.ref a] [p] := .cons e .nil
def PL (H : Hp) (l : Addr) (ps : List Pn) : Prop := ∃ vs, H l = some (.lst vs) ∧ Pcs H vs ps
theorem PL.same {H H' : Hp} {l : Addr} {ps : List Pn} (h : PL H l ps) (s : Same H H') : PL H' l ps := by
  obtain ⟨vs, e, p⟩ := h
  exact ⟨vs, s _ _ e, p.same s⟩
theorem last_at {vs : List V} {v : V} (h : vs[vs.length - 1]? = some v) : atI vs (-1) = some v := by
  have := (List.getElem?_eq_some_iff.mp h).1
  unfold atI ixN
  rw [if_neg (by omega), if_pos (by omega)]
  show vs[((-1 : Int) + vs.length).toNat]? = _
  rw [show ((-1 : Int) + vs.length).toNat = vs.length - 1 by omega]
  exact h
theorem head_get {f : F} {m : Nat} (h : f.length = m + 1) : (f.map fun n : Nat => V.int (n : Nat))[0]? = some (.int ((f.headD 0 : Nat) : Int)) := by
  cases f with
  | nil => simp at h
  | cons a f => rfl
theorem nat_dec (a b : Nat) : decide (V.int (a : Nat) = V.int (b : Nat)) = decide (a = b) := by
  by_cases h : a = b
  · rw [h, decide_eq_true rfl, decide_eq_true rfl]
  · rw [decide_eq_false h, decide_eq_false (fun z => h (by have := V.int.inj z; omega))]
theorem not_empty {α : Type} {l : List α} {q : α} (h : l.getLast? = some q) : (!l.isEmpty) = true := by
  cases l with
  | nil => cases h
  | cons _ _ => rfl
section
variable {P : Program} {w : World} {K : PySem.W.Frag} {mg : Str → Option Value} {base : Heap} {C E_InvalidText E_InvalidNumber E_TooMany E_CountError : Addr}
def sp_open : Sp := fun vs H Q _ => ∃ (a : Addr) (f : F), vs = [.ref a] ∧ FT H a f ∧ ∀ H', Same H H' → Q (.bl (isOpen f)) H'
theorem c_is_open_form (T : Txt K mg C E_InvalidText E_InvalidNumber E_TooMany E_CountError) : C8.Cal P w K mg base 1 "is_open_form" sp_open [] := by
  refine calF T.d_is_open_form sc_is_open_form (fun vs H Q E h => ?_) (fun f cdv A outer s H vs Q E hr h => ?_)
  · obtain ⟨_, _, rfl, _⟩ := h; rfl
  · obtain ⟨a, f, rfl, ha, q⟩ := h
    refine ⟨_, (pss_one (ps_ret (pe_callB (cr_anyN rfl) (by rfl) T.m_any (by decide +kernel) (pa_cons (pe_slice sl_drop (pv 0) (po_some pe_int) po_none) pa_nil)))), ?_⟩
    refine ⟨_, rfl, 1, rfl, a, _, 1, rfl, rfl, rfl, ha, fun p1 H1 s1 h1 => ⟨p1, f.tail, rfl, ?_, q H1 s1⟩⟩
    rw [h1, ← List.map_drop]
    cases f <;> rfl
def sp_is_power : Sp := fun vs H Q _ => ∃ (a : Addr) (p : Pn) (m : Nat), vs = [.ref a] ∧ PC H a p ∧ p.2.length = m + 1 ∧ Q (.bl (isPow p)) H
theorem c_is_power (T : Txt K mg C E_InvalidText E_InvalidNumber E_TooMany E_CountError) : C8.Cal P w K mg base 1 "is_power" sp_is_power [] := by
  refine calF T.d_is_power sc_is_power (fun vs H Q E h => ?_) (fun f cdv A outer s H vs Q E hr h => ?_)
  · obtain ⟨_, _, _, rfl, _⟩ := h; rfl
  · obtain ⟨a, p, m, rfl, ⟨fa, h1, h2⟩, hl, q⟩ := h
    refine ⟨_, (pss_one (ps_ret (pe_cmpR op_eq (pe_ix ix_tup (pe_ix ix_tup (pv 0) pe_int (fun _ _ => rfl)) pe_int (fun _ _ => rfl)) pe_int (nomark _)))), ?_⟩
    refine ⟨_, rfl, a, _, 1, _, rfl, rfl, .inl (.inl h1), atI_nat (j := 1) rfl, fa, _, 0, _, rfl, rfl, .inl (.inl h2), atI_nat (j := 0) (head_get hl), rfl, ?_⟩
    have := nat_dec (p.2.headD 0) 0
    rw [show V.int ((0 : Nat) : Int) = V.int 0 from rfl] at this
    rw [this]
    exact q
def sp_fixed : Sp := fun vs H Q _ => ∃ (z : List Nat) (m : Nat), vs = [.str (S z), .int m] ∧ m ≤ 3 ∧ ∀ p H', Same H H' → PC H' p (fixP z m) → Q (.ref p) H'
theorem c_fixed_piece (T : Txt K mg C E_InvalidText E_InvalidNumber E_TooMany E_CountError) : C8.Cal P w K mg base 1 "fixed_piece" sp_fixed [] := by
  refine calF T.d_fixed_piece sc_fixed_piece (fun vs H Q E h => ?_) (fun f cdv A outer s H vs Q E hr h => ?_)
  · obtain ⟨_, _, rfl, _⟩ := h; rfl
  · obtain ⟨z, m, rfl, hm, q⟩ := h
    refine ⟨_, (pss_one (ps_ret (pe_tup (pa_cons (pv 0) (pa_cons (pe_op op_catS (pe_tup (pa_cons pe_int pa_nil)) (pe_op op_repOne (pe_tup (pa_cons pe_int pa_nil)) (pv 1))) pa_nil))))), ?_⟩
    refine ⟨_, rfl, by show 1 ≤ sizeLine; decide, fun t1 n1 => ⟨by decide, fun t2 n2 => ⟨_, rfl, t2, _, _, rfl, rfl, upd_same, by omega, by omega, fun p H' s hp => ?_⟩⟩⟩
    have e1 : H' t1 = some (.tup [.int 1]) := s _ _ (by rw [upd_ne (ne_of_none upd_same n2)]; exact upd_same)
    refine ⟨t1, p, _, _, rfl, rfl, e1, hp, by simp; omega, fun p2 H2 s2 h2 => ⟨by show 2 ≤ sizeLine; decide, fun t ht => ?_⟩⟩
    refine q t _ ((((sameNew n1).trans (sameNew n2)).trans (s.trans s2)).trans (sameNew ht)) ⟨p2, upd_same, ?_⟩
    refine sameNew ht _ _ ?_
    rw [h2]
    unfold fixP one1
    simp
theorem tru_word {K : PySem.W.Frag} {H : Hp} {z : List Nat} (h : z.length ≤ 1000000) : TruV K (.str (S z)) H (decide (z ≠ [])) := by
  refine ⟨len_line h, ?_⟩
  rw [S_len]
  by_cases e : z = []
  · subst e; rfl
  · have := List.length_pos_iff.mpr e
    rw [decide_eq_true e]
    symm
    rw [bne_iff_ne]
    omega
theorem SameX.updL {l : Addr} {H H1 : Hp} {o : HO} (s : SameX l H H1) : SameX l H (upd H1 l o) := fun b x hb e => by
  rw [upd_ne hb]
  exact s b x hb e
/-- behind the first test -/
theorem fixed_tail (T : Txt K mg C E_InvalidText E_InvalidNumber E_TooMany E_CountError) (f : Addr) (cdv : Value) (A : Around) (outer : List Env) (s : Shared) (H0 : Hp) (E : XK) (hr : Room 1 (A.deeper (envOfC "put_fixed" (C8.fnScope (topS 38)) s.heap.objs.size f cdv))) :
    ∃ u, PSs (cxOf C8.CX0 P w K mg base ["ready", "word", "many"] "put_fixed" (C8.fnScope (topS 38)) f cdv A outer s H0 E).nox ((C8.fnBody (topS 38)).drop 1) u ∧
      ∀ (D : Ends) (H : Hp) (l : Addr) (us : List V) (X : List Pn) (z : List Nat) (m : Nat), H l = some (.lst us) → Pcs H us X → m ≤ 3 → X.length < 1000000 → z.length ≤ 200000 →
        (∀ σ H', SameX l H H' → PL H' l (if z = [] then X else X ++ [fixP z m]) → D.nx σ H') → u D [some (.ref l), some (.str (S z)), some (.int m)] H := by
  refine ⟨_, (pss_one (ps_if (pt_truth (pv 1) (by intro _; rfl))
    (pss_one (ps_expr (pe_bm PySem.F.plainAttrs_list PySem.F.slot_list_append PySem.F.type_list_append mt_append (pv 0) (pa_cons (C8.pe_c (c_fixed_piece T) hr (by decide) (by rfl) (pa_cons (pv 1) (pa_cons (pv 2) pa_nil))) pa_nil))))
    pss_nil)), ?_⟩
  intro D H l us X z m hl hX hm lX lz q
  refine ⟨_, rfl, _, tru_word (by omega), ite2 (fun e => ?_) (fun e => ?_)⟩
  · have e' := of_decide_eq_true e
    refine ⟨_, rfl, .inl ⟨rfl, _, .inl (.inl hl)⟩, _, rfl, _, rfl, z, m, rfl, hm, fun t H2 s2 pc => ?_⟩
    have h2 := s2 _ _ hl
    refine ⟨l, _, _, rfl, rfl, h2, by have := hX.len; rw [sizeLine_eq]; omega, q _ _ (SameX.updL (.of s2)) ?_⟩
    rw [if_neg e']
    exact ⟨_, upd_same, ((hX.same s2).upd h2).app (.one (pc.mono (tup_upd h2)))⟩
  · have e' : z = [] := Classical.byContradiction fun y => e (decide_eq_true y)
    exact q _ _ (.refl _ _) (by rw [if_pos e']; exact ⟨us, hl, hX⟩)
/-- the list at l grows, all else stays -/
def sp_put_fixed : Sp := fun vs H Q _ => ∃ (l : Addr) (acc : List Pn) (z : List Nat) (m : Nat), vs = [.ref l, .str (S z), .int m] ∧ PL H l acc ∧ LenF m acc ∧ m ≤ 3 ∧ acc.length < 1000000 ∧ z.length ≤ 100000 ∧ (∀ p ∈ acc, p.1.length ≤ 100000) ∧
  ∀ H', SameX l H H' → PL H' l (joinF acc z m) → Q .non H'
theorem c_put_fixed (T : Txt K mg C E_InvalidText E_InvalidNumber E_TooMany E_CountError) : C8.Cal P w K mg base 2 "put_fixed" sp_put_fixed [] := by
  refine calF T.d_put_fixed sc_put_fixed (fun vs H Q E h => ?_) (fun f cdv A outer s H vs Q E hr h => ?_)
  · obtain ⟨_, _, _, _, rfl, _⟩ := h; rfl
  · obtain ⟨l, acc, z, m, rfl, ⟨vs, hl, hp⟩, lf, hm, hacc, hz, hw, q⟩ := h
    have lv := hp.len
    obtain ⟨u1, hu1, tail⟩ := fixed_tail (P := P) (w := w) (base := base) T f cdv A outer s H E hr
    refine ⟨_, (pss_cons (ps_if (PW.pt (pw_and (pt_truth (pv 0) (by intro _; rfl)) (pw_and1 (pt_not (pt_val (C8.pe_c (c_is_power T) hr (by decide) (by rfl) (pa_cons (pe_ix ix_list (pv 0) (pe_un un_neg pe_int) (fun _ _ => rfl)) pa_nil)))))))
    (pss_one (ps_set (i := 1) sc_put_fixed.nd rfl (Or.inl rfl) (pe_op op_add_str (pe_ix ix_tup (pe_bm0 PySem.F.plainAttrs_list PySem.F.slot_list_pop PySem.F.type_list_pop mt_pop (pv 0)) pe_int (fun _ _ => rfl)) (pv 1))))
    pss_nil)
    hu1), ?_⟩
    cases hlast : vs.getLast? with
    | none =>
      have ve : vs = [] := List.getLast?_eq_none_iff.mp hlast
      have ae : acc = [] := List.length_eq_zero_iff.mp (by rw [← lv, ve]; rfl)
      have ep : joinF acc z m = if z = [] then acc else acc ++ [fixP z m] := by rw [ae]; rfl
      rw [ep] at q
      refine ⟨_, rfl, false, .inl ⟨_, .inl (.inl hl), by rw [ve]; rfl⟩, iteF (iteF ?_)⟩
      exact tail _ H l vs acc z m hl hp hm hacc (by omega) fun _ H' s' p' => q H' s' p'
    | some v =>
      have hv : vs[vs.length - 1]? = some v := by rw [← List.getLast?_eq_getElem?]; exact hlast
      obtain ⟨b, p, rfl, hpi, pc⟩ := hp.get hv
      have ha : acc.getLast? = some p := by rw [List.getLast?_eq_getElem?, ← lv]; exact hpi
      have mem := List.mem_of_getLast? ha
      refine ⟨_, rfl, true, .inl ⟨_, .inl (.inl hl), (not_empty hlast).symm⟩, iteT ?_⟩
      refine ⟨_, rfl, 1, rfl, l, _, -1, _, rfl, rfl, .inl (.inl hl), last_at hv, b, p, m, rfl, pc, lf p mem, _, rfl, ?_⟩
      cases ep : isPow p with
      | true =>
        have e : joinF acc z m = if z = [] then acc else acc ++ [fixP z m] := by
          unfold joinF
          rw [ha]
          simp [ep]
        rw [e] at q
        refine iteF ?_
        exact tail _ H l vs acc z m hl hp hm hacc (by omega) fun _ H' s' p' => q H' s' p'
      | false =>
        have e : joinF acc z m = if p.1 ++ z = [] then acc.dropLast else acc.dropLast ++ [fixP (p.1 ++ z) m] := by
          unfold joinF
          rw [ha]
          simp [ep]
        rw [e] at q
        obtain ⟨fa, h1, h2⟩ := id pc
        have lp := hw p mem
        refine iteT ⟨_, rfl, .inl ⟨rfl, _, .inl (.inl hl)⟩, l, _, _, rfl, rfl, hl, hv, b, _, 0, _, rfl, rfl, .inl (.inl (tup_upd hl _ _ h1)), atI_nat (j := 0) rfl, _, rfl, _, _, rfl, rfl, ?_, ?_⟩
        · rw [S_len, S_len, sizeLine_eq]
          omega
        · rw [S_cat]
          exact tail _ _ l vs.dropLast acc.dropLast (p.1 ++ z) m upd_same (hp.init.upd hl) hm (by rw [List.length_dropLast]; omega) (by rw [List.length_append]; omega) fun _ H' s' p' => q H' ((SameX.updL (.refl _ _)).trans s') p'
end
end K59

set_option Elab.async false
set_option linter.all false
set_option maxRecDepth 100000
set_option maxHeartbeats 4000000
namespace K59
open PySem PySem.Spec PyProof.Rows L2 CK SX NM
def Ws (B : Nat) (ps : List Pn) : Prop := ∀ p ∈ ps, p.1.length ≤ B
theorem mem_joinF {acc : List Pn} {z : WM.W} {m : Nat} {p : Pn} (h : p ∈ joinF acc z m) : p ∈ acc ∨ p = fixP z m ∨ ∃ q ∈ acc, p = fixP (q.1 ++ z) m := by
  unfold joinF at h
  split at h
  · next q hq =>
    have mq := List.mem_of_getLast? hq
    split at h
    · split at h
      · exact .inl h
      · rcases List.mem_append.mp h with x | x
        · exact .inl x
        · exact .inr (.inl (List.mem_singleton.mp x))
    · split at h
      · exact .inl (mem_dropLast h)
      · rcases List.mem_append.mp h with x | x
        · exact .inl (mem_dropLast x)
        · exact .inr (.inr ⟨q, mq, List.mem_singleton.mp x⟩)
  · split at h
    · exact .inl h
    · rcases List.mem_append.mp h with x | x
      · exact .inl x
      · exact .inr (.inl (List.mem_singleton.mp x))
theorem len_one1 (m : Nat) : (one1 m).length = m + 1 := by simp [one1]
theorem lenF_joinF {acc : List Pn} {z : WM.W} {m : Nat} (h : LenF m acc) : LenF m (joinF acc z m) := fun p hp => by
  rcases mem_joinF hp with x | x | ⟨q, _, x⟩
  · exact h p x
  · rw [x]; exact len_one1 m
  · rw [x]; exact len_one1 m
theorem ws_joinF {acc : List Pn} {z : WM.W} {m B : Nat} (h : Ws B acc) (hz : z.length ≤ B) : Ws (2 * B) (joinF acc z m) := fun p hp => by
  rcases mem_joinF hp with x | x | ⟨q, hq, x⟩
  · have := h p x
    omega
  · rw [x]
    show z.length ≤ 2 * B
    omega
  · rw [x]
    show (q.1 ++ z).length ≤ 2 * B
    have := h q hq
    rw [List.length_append]
    omega
theorem len_joinF (acc : List Pn) (z : WM.W) (m : Nat) : (joinF acc z m).length ≤ acc.length + 1 := by
  unfold joinF
  split
  · split
    · split <;> simp
    · split <;> simp
      omega
  · split <;> simp
section
variable {P : Program} {w : World} {K : PySem.W.Frag} {mg : Str → Option Value} {base : Heap} {C E_InvalidText E_InvalidNumber E_TooMany E_CountError : Addr}
theorem power_tail2 (T : Txt K mg C E_InvalidText E_InvalidNumber E_TooMany E_CountError) (f0 : Addr) (cdv : Value) (A : Around) (outer : List Env) (s : Shared) (H0 : Hp) (E : XK) (hr : Room 2 (A.deeper (envOfC "put_power" (C8.fnScope (topS 39)) s.heap.objs.size f0 cdv))) :
    ∃ u, PSs (cxOf C8.CX0 P w K mg base ["ready", "word", "form", "many", "behind", "ahead", "moved"] "put_power" (C8.fnScope (topS 39)) f0 cdv A outer s H0 E).nox ((C8.fnBody (topS 39)).drop 4) u ∧
      ∀ (D : Ends) (H : Hp) (l fa : Addr) (us : List V) (X : List Pn) (z b : List Nat) (f : F) (m : Nat) (y5 y6 : Option V), H l = some (.lst us) → Pcs H us X → FT H fa f → f.length = m + 1 → LenF m X → m ≤ 3 → X.length < 900000 → b.length ≤ 100000 → z.length ≤ 100000 → Ws 100000 X →
        (∀ σ H', SameX l H H' → PL H' l (joinF (X ++ [(z, f)]) b m) → D.nx σ H') → u D [some (.ref l), some (.str (S z)), some (.ref fa), some (.int m), some (.str (S b)), y5, y6] H := by
  refine ⟨_, (pss_cons (ps_expr (pe_bm PySem.F.plainAttrs_list PySem.F.slot_list_append PySem.F.type_list_append mt_append (pv 0) (pa_cons (pe_tup (pa_cons (pv 1) (pa_cons (pv 2) pa_nil))) pa_nil)))
    (pss_one (ps_expr (C8.pe_c (c_put_fixed T) hr (by decide) (by rfl) (pa_cons (pv 0) (pa_cons (pv 4) (pa_cons (pv 3) pa_nil))))))), ?_⟩
  intro D H l fa us X z b f m y5 y6 hl hX hf lf lX hm hn lb lz ws q
  have lu := hX.len
  refine ⟨_, rfl, .inl ⟨rfl, _, .inl (.inl hl)⟩, _, rfl, _, rfl, by show 2 ≤ sizeLine; decide, fun t ht => ?_⟩
  have st := sameNew (o := .tup [.str (S z), .ref fa]) ht
  have h1 := st _ _ hl
  refine ⟨l, _, _, rfl, rfl, h1, by rw [sizeLine_eq]; omega, ?_⟩
  have PL1 : PL (upd (upd H t (.tup [.str (S z), .ref fa])) l (.lst (us ++ [.ref t]))) l (X ++ [(z, f)]) := by
    refine ⟨_, upd_same, ((hX.same st).upd h1).app (.one ⟨fa, tup_upd h1 _ _ upd_same, tup_upd h1 _ _ (st _ _ hf)⟩)⟩
  refine ⟨_, rfl, _, rfl, _, rfl, l, X ++ [(z, f)], b, m, rfl, PL1, fun p hp => ?_, hm, by simp; omega, by omega, fun p hp => ?_, fun H' s' p' => q _ H' ((SameX.updL (.of st)).trans s') p'⟩
  · rcases List.mem_append.mp hp with x | x
    · exact lX p x
    · rw [List.mem_singleton.mp x]
      exact lf
  · rcases List.mem_append.mp hp with x | x
    · exact ws p x
    · rw [List.mem_singleton.mp x]
      exact lz
theorem power_tail1 (T : Txt K mg C E_InvalidText E_InvalidNumber E_TooMany E_CountError) (f0 : Addr) (cdv : Value) (A : Around) (outer : List Env) (s : Shared) (H0 : Hp) (E : XK) (hr : Room 2 (A.deeper (envOfC "put_power" (C8.fnScope (topS 39)) s.heap.objs.size f0 cdv))) :
    ∃ u, PSs (cxOf C8.CX0 P w K mg base ["ready", "word", "form", "many", "behind", "ahead", "moved"] "put_power" (C8.fnScope (topS 39)) f0 cdv A outer s H0 E).nox ((C8.fnBody (topS 39)).drop 3) u ∧
      ∀ (D : Ends) (σ : L2.St) (H : Hp) (l fa : Addr) (us : List V) (X : List Pn) (z b : List Nat) (f : F) (m : Nat) (y5 y6 : Option V), σ = [some (.ref l), some (.str (S z)), some (.ref fa), some (.int m), some (.str (S b)), y5, y6] → H l = some (.lst us) → Pcs H us X → FT H fa f → f.length = m + 1 → LenF m X → m ≤ 3 → X.length < 900000 → b.length ≤ 100000 → z.length ≤ 100000 → Ws 100000 X →
        (∀ σ H', SameX l H H' → PL H' l (joinF (pushP X z f) b m) → D.nx σ H') → u D σ H := by
  obtain ⟨u2, hu2, tail⟩ := power_tail2 (P := P) (w := w) (base := base) T f0 cdv A outer s H0 E hr
  refine ⟨_, (pss_cons (ps_if (PW.pt (pw_and (pt_truth (pv 0) (by intro _; rfl)) (pw_and (pt_val (C8.pe_c (c_is_power T) hr (by decide) (by rfl) (pa_cons (pe_ix ix_list (pv 0) (pe_un un_neg pe_int) (fun _ _ => rfl)) pa_nil))) (pw_and1 (pt_cmpR op_eq (pe_ix ix_tup (pe_ix ix_list (pv 0) (pe_un un_neg pe_int) (fun _ _ => rfl)) pe_int (fun _ _ => rfl)) (pv 1) (nomark _))))))
    (pss_one (ps_set (i := 2) sc_put_power.nd rfl (Or.inl rfl) (C8.pe_c (c_form_sum T) hr (by decide) (by rfl) (pa_cons (pe_ix ix_tup (pe_bm0 PySem.F.plainAttrs_list PySem.F.slot_list_pop PySem.F.type_list_pop mt_pop (pv 0)) pe_int (fun _ _ => rfl)) (pa_cons (pv 2) pa_nil)))))
    pss_nil)
    hu2), ?_⟩
  intro D σ H l fa us X z b f m y5 y6 eσ hl hX hf lf lX hm hn lb lz ws q
  subst eσ
  have lu := hX.len
  cases hlast : us.getLast? with
  | none =>
    have ve : us = [] := List.getLast?_eq_none_iff.mp hlast
    have ae : X = [] := List.length_eq_zero_iff.mp (by rw [← lu, ve]; rfl)
    have ep : pushP X z f = X ++ [(z, f)] := by rw [ae]; rfl
    rw [ep] at q
    refine ⟨_, rfl, false, .inl ⟨_, .inl (.inl hl), by rw [ve]; rfl⟩, iteF (iteF ?_)⟩
    exact tail _ H l fa us X z b f m y5 y6 hl hX hf lf lX hm hn lb lz ws q
  | some v =>
    have hv : us[us.length - 1]? = some v := by rw [← List.getLast?_eq_getElem?]; exact hlast
    obtain ⟨c, p, rfl, hpi, pc⟩ := hX.get hv
    have ha : X.getLast? = some p := by rw [List.getLast?_eq_getElem?, ← lu]; exact hpi
    have mem := List.mem_of_getLast? ha
    have other : ¬ (isPow p = true ∧ p.1 = z) → u2 D [some (.ref l), some (.str (S z)), some (.ref fa), some (.int m), some (.str (S b)), y5, y6] H := fun no => by
      have ep : pushP X z f = X ++ [(z, f)] := by
        unfold pushP
        rw [ha]
        simp [no]
      rw [ep] at q
      exact tail _ H l fa us X z b f m y5 y6 hl hX hf lf lX hm hn lb lz ws q
    refine ⟨_, rfl, true, .inl ⟨_, .inl (.inl hl), (not_empty hlast).symm⟩, iteT ?_⟩
    refine ⟨_, rfl, 1, rfl, l, _, -1, _, rfl, rfl, .inl (.inl hl), last_at hv, c, p, m, rfl, pc, lX p mem, _, rfl, ?_⟩
    cases ep : isPow p with
    | false => exact iteF (iteF (other fun z => by rw [ep] at z; cases z.1))
    | true =>
      obtain ⟨fp, h1, h2⟩ := id pc
      refine iteT ⟨_, rfl, 1, rfl, l, _, -1, _, rfl, rfl, .inl (.inl hl), last_at hv, c, _, 0, _, rfl, rfl, .inl (.inl h1), atI_nat (j := 0) rfl, _, rfl, rfl, _, rfl, ite2 (fun e => ?_) (fun e => ?_)⟩
      · have e1 : p.1 = z := S_inj (V.str.inj (of_decide_eq_true e))
        have es : pushP X z f = X.dropLast ++ [(z, addF p.2 f)] := by
          unfold pushP
          rw [ha]
          simp [ep, e1]
        rw [es] at q
        have lp := lX p mem
        have h2' : FT (upd H l (.lst us.dropLast)) fp p.2 := tup_upd hl _ _ h2
        refine ⟨_, rfl, .inl ⟨rfl, _, .inl (.inl hl)⟩, l, _, _, rfl, rfl, hl, hv, c, _, 1, _, rfl, rfl, .inl (.inl (tup_upd hl _ _ h1)), atI_nat (j := 1) rfl, _, rfl, fp, fa, p.2, f, rfl, h2', tup_upd hl _ _ hf, by omega, by omega, fun fs H2 s2 h3 => ?_⟩
        have hl2 : H2 l = some (.lst us.dropLast) := s2 _ _ upd_same
        refine tail _ H2 l fs us.dropLast X.dropLast z b (addF p.2 f) m y5 y6 hl2 ((hX.init.upd hl).same s2) h3 (by rw [len_add (by omega)]; exact lf) (fun r hr' => lX r (mem_dropLast hr')) hm (by rw [List.length_dropLast]; omega) lb lz (fun r hr' => ws r (mem_dropLast hr')) fun σ H' s' p' => q σ H' (((SameX.updL (.refl _ _)).trans (.of s2)).trans s') p'
      · exact other fun y => e (decide_eq_true (by rw [y.2]))
def sp_put_power : Sp := fun vs H Q _ => ∃ (l fa : Addr) (acc : List Pn) (z : List Nat) (f : F) (m : Nat), vs = [.ref l, .str (S z), .ref fa] ∧ PL H l acc ∧ FT H fa f ∧ f.length = m + 1 ∧ LenF m acc ∧ m ≤ 3 ∧ acc.length < 100000 ∧ z ≠ [] ∧ z.length ≤ 10000 ∧ Ws 10000 acc ∧
  ∀ H', SameX l H H' → PL H' l (putP acc z f) → Q .non H'
theorem c_put_power (T : Txt K mg C E_InvalidText E_InvalidNumber E_TooMany E_CountError) : C8.Cal P w K mg base 3 "put_power" sp_put_power [] := by
  refine calF T.d_put_power sc_put_power (fun vs H Q E h => ?_) (fun f0 cdv A outer s H vs Q E hr h => ?_)
  · obtain ⟨_, _, _, _, _, _, rfl, _⟩ := h; rfl
  · obtain ⟨l, fa, acc, z, f, m, rfl, ⟨vs, hl, hp⟩, hf, lf, lA, hm, hacc, zne, hz, ws, q⟩ := h
    have lv := hp.len
    have em : f.length - 1 = m := by omega
    obtain ⟨u1, hu1, tail⟩ := power_tail1 (P := P) (w := w) (base := base) T f0 cdv A outer s H E hr
    refine ⟨_, (pss_cons (ps_set (i := 3) sc_put_power.nd rfl (Or.inl rfl) (pe_op op_sub (pe_callB call_len_seq (by rfl) T.m_len (by decide +kernel) (pa_cons (pv 2) pa_nil)) pe_int))
    (pss_cons (ps_set (i := 4) sc_put_power.nd rfl (Or.inl rfl) pe_str)
    (pss_cons (ps_if (PW.pt (pw_and (pt_truth (pv 0) (by intro _; rfl)) (pw_and1 (pt_not (pt_val (C8.pe_c (c_is_power T) hr (by decide) (by rfl) (pa_cons (pe_ix ix_list (pv 0) (pe_un un_neg pe_int) (fun _ _ => rfl)) pa_nil)))))))
    (pss_cons (ps_set (i := 5) sc_put_power.nd rfl (Or.inl rfl) (pe_ix ix_tup (pe_bm0 PySem.F.plainAttrs_list PySem.F.slot_list_pop PySem.F.type_list_pop mt_pop (pv 0)) pe_int (fun _ _ => rfl)))
    (pss_cons (ps_set (i := 6) sc_put_power.nd rfl (Or.inl rfl) (C8.pe_c (c_alike_behind T) hr (by decide) (by rfl) (pa_cons (pv 5) (pa_cons (C8.pe_c (c_stretch T) hr (by decide) (by rfl) (pa_cons (pv 1) (pa_cons (pe_un un_neg (pe_callB call_len_str (by rfl) T.m_len (by decide +kernel) (pa_cons (pv 5) pa_nil))) (pa_cons (pe_callB call_len_str (by rfl) T.m_len (by decide +kernel) (pa_cons (pv 5) pa_nil)) pa_nil)))) pa_nil))))
    (pss_cons (ps_set (i := 4) sc_put_power.nd rfl (Or.inl rfl) (pe_slice C8.sl_txt (pv 5) (po_some (pe_op op_sub (pe_callB call_len_str (by rfl) T.m_len (by decide +kernel) (pa_cons (pv 5) pa_nil)) (pv 6))) po_none))
    (pss_cons (ps_set (i := 1) sc_put_power.nd rfl (Or.inl rfl) (C8.pe_c (c_turned_word T) hr (by decide) (by rfl) (pa_cons (pv 1) (pa_cons (pe_un un_neg (pv 6)) pa_nil))))
    (pss_one (ps_expr (C8.pe_c (c_put_fixed T) hr (by decide) (by rfl) (pa_cons (pv 0) (pa_cons (pe_slice C8.sl_txt (pv 5) po_none (po_some (pe_op op_sub (pe_callB call_len_str (by rfl) T.m_len (by decide +kernel) (pa_cons (pv 5) pa_nil)) (pv 6)))) (pa_cons (pv 3) pa_nil))))))))))
    pss_nil)
    hu1))), ?_⟩
    refine ⟨_, rfl, fa, _, rfl, .inr (.inl (.inl hf)), _, _, rfl, rfl, ?_⟩
    have lm : (((f.map fun n : Nat => V.int (n : Nat)).length : Nat) : Int) - 1 = (m : Int) := by rw [List.length_map, lf]; omega
    have eS : (V.str "") = V.str (S []) := by decide +kernel
    have eσ : [some (V.ref l), some (V.str (S z)), some (V.ref fa), some (V.int ((((f.map fun n : Nat => V.int (n : Nat)).length : Nat) : Int) - 1)), some (V.str ""), none, none] = [some (V.ref l), some (V.str (S z)), some (V.ref fa), some (V.int (m : Nat)), some (V.str (S [])), none, none] := by rw [lm, eS]
    have simple : (∀ q, acc.getLast? = some q → isPow q = true) → u1 { nx := fun _ H' => Q .non H', rt := Q } [some (V.ref l), some (V.str (S z)), some (V.ref fa), some (V.int ((((f.map fun n : Nat => V.int (n : Nat)).length : Nat) : Int) - 1)), some (V.str ""), none, none] H := fun hp' => by
      have e : putP acc z f = joinF (pushP acc z f) [] m := by
        unfold putP
        rw [em]
        split
        · next q hq => rw [if_pos (hp' q hq)]
        · rfl
      rw [e] at q
      exact tail _ _ H l fa vs acc z [] f m none none eσ hl hp hf lf lA hm (by omega) (by simp) (by omega) (fun p hp => by have := ws p hp; omega) fun _ H' s' p' => q H' s' p'
    cases hlast : vs.getLast? with
    | none =>
      have ve : vs = [] := List.getLast?_eq_none_iff.mp hlast
      have ae : acc = [] := List.length_eq_zero_iff.mp (by rw [← lv, ve]; rfl)
      refine ⟨_, rfl, false, .inl ⟨_, .inl (.inl hl), by rw [ve]; rfl⟩, iteF (iteF ?_)⟩
      exact simple fun q hq => by rw [ae] at hq; cases hq
    | some v =>
      have hv : vs[vs.length - 1]? = some v := by rw [← List.getLast?_eq_getElem?]; exact hlast
      obtain ⟨b, p, rfl, hpi, pc⟩ := hp.get hv
      have ha : acc.getLast? = some p := by rw [List.getLast?_eq_getElem?, ← lv]; exact hpi
      have mem := List.mem_of_getLast? ha
      refine ⟨_, rfl, true, .inl ⟨_, .inl (.inl hl), (not_empty hlast).symm⟩, iteT ?_⟩
      refine ⟨_, rfl, 1, rfl, l, _, -1, _, rfl, rfl, .inl (.inl hl), last_at hv, b, p, m, rfl, pc, lA p mem, _, rfl, ?_⟩
      cases ep : isPow p with
      | true => exact iteF (simple fun q hq => by rw [ha] at hq; cases hq; exact ep)
      | false =>
        have e : putP acc z f = joinF (pushP (joinF acc.dropLast (p.1.take (p.1.length - movedE p.1 z)) m) (rotR z (movedE p.1 z)) f) (p.1.drop (p.1.length - movedE p.1 z)) m := by
          unfold putP
          rw [ha, em]
          simp [ep]
        rw [e] at q
        obtain ⟨fp, h1, h2⟩ := id pc
        have lp := ws p mem
        have mle := movedE_le p.1 z
        have hl1 : (upd H l (.lst vs.dropLast)) l = some (.lst vs.dropLast) := upd_same
        have hp1 := hp.init.upd (ys := vs.dropLast) hl
        have hf1 : FT (upd H l (.lst vs.dropLast)) fa f := tup_upd hl _ _ hf
        refine iteT ⟨_, rfl, .inl ⟨rfl, _, .inl (.inl hl)⟩, l, _, _, rfl, rfl, hl, hv, b, _, 0, _, rfl, rfl, .inl (.inl (tup_upd hl _ _ h1)), atI_nat (j := 0) rfl, ?_⟩
        generalize hmv : movedE p.1 z = mv at mle q
        have emv : WM.lcp p.1.reverse (tailE z p.1.length).reverse = mv := hmv
        refine ⟨_, rfl, _, rfl, _, rfl, S p.1, rfl, len_line (by omega), _, rfl, _, rfl, S p.1, rfl, len_line (by omega), z, p.1.length, by rw [S_len]; rfl, zne, by omega, by omega, p.1, tailE z p.1.length, rfl, by omega, by rw [tailE_len zne]; omega, ?_⟩
        rw [emv]
        refine ⟨_, rfl, _, rfl, S p.1, rfl, len_line (by omega), _, rfl, _, _, rfl, rfl, ((p.1.length - mv : Nat) : Int), congrArg V.int (by rw [S_len]; omega), S p.1, rfl, len_line (by omega), ?_⟩
        rw [SX.slice_from (by omega), Int.toNat_natCast]
        refine ⟨_, rfl, _, rfl, _, rfl, z, -(mv : Int), rfl, by omega, zne, ?_⟩
        rw [rotZ_neg zne]
        refine ⟨_, rfl, _, rfl, _, rfl, S p.1, rfl, len_line (by omega), _, rfl, _, _, rfl, rfl, ((p.1.length - mv : Nat) : Int), congrArg V.int (by rw [S_len]; omega), S p.1, rfl, len_line (by omega), ?_⟩
        rw [SX.slice_to (by omega), Int.toNat_natCast]
        refine ⟨_, rfl, l, acc.dropLast, p.1.take (p.1.length - mv), m, by
          show [V.ref l, V.str _, V.int ((((f.map fun n : Nat => V.int (n : Nat)).length : Nat) : Int) - 1)] = _
          rw [lm], ⟨_, hl1, hp1⟩, fun r hr' => lA r (mem_dropLast hr'), hm, by rw [List.length_dropLast]; omega, by rw [List.length_take]; omega, fun r hr' => by have := ws r (mem_dropLast hr'); omega, fun H2 s2 p2 => ?_⟩
        obtain ⟨us, hus, pus⟩ := p2
        have wsJ : Ws 20000 (joinF acc.dropLast (p.1.take (p.1.length - mv)) m) := ws_joinF (B := 10000) (fun r hr' => ws r (mem_dropLast hr')) (by rw [List.length_take]; omega)
        have lJ := len_joinF acc.dropLast (p.1.take (p.1.length - mv)) m
        rw [List.length_dropLast] at lJ
        refine tail _ _ H2 l fa us _ (rotR z mv) (p.1.drop (p.1.length - mv)) f m (some (.str (S p.1))) (some (.int (mv : Nat))) (by
          show [some (V.ref l), some (V.str (S (rotR z mv))), some (V.ref fa), some (V.int ((((f.map fun n : Nat => V.int (n : Nat)).length : Nat) : Int) - 1)), some (V.str (S (p.1.drop (p.1.length - mv)))), some (V.str (S p.1)), some (V.int (mv : Nat))] = _
          rw [lm]) hus pus (tup_sameX hl1 s2 _ _ hf1) lf (lenF_joinF fun r hr' => lA r (mem_dropLast hr')) hm (by omega) (by rw [List.length_drop]; omega) (by rw [rotR_len]; omega) (fun r hr' => by have := wsJ r hr'; omega) fun σ H' s' p' => q H' (((SameX.updL (.refl _ _)).trans s2).trans s') p'
end
end K59

set_option Elab.async false
set_option linter.all false
set_option maxRecDepth 100000
set_option maxHeartbeats 4000000
namespace K59
open PySem PySem.Spec PyProof.Rows L2 CK SX NM
/-- what holds between two statements -/
theorem cut_seq {t u : TS} {D : Ends} {σ : L2.St} {H : Hp} (Mid : L2.St → Hp → Prop) (h1 : ∀ K : L2.St → Hp → Prop, (∀ σ' H', Mid σ' H' → K σ' H') → t { D with nx := K } σ H) (h2 : ∀ σ' H', Mid σ' H' → u D σ' H') : tSeq t u D σ H := h1 _ h2
theorem meas_cons (p : Pn) (r : List Pn) : meas (p :: r) = measP p + meas r := by simp [meas]
theorem le_meas : ∀ {l : List Pn} {p : Pn}, p ∈ l → measP p ≤ meas l
  | [], _, h => absurd h List.not_mem_nil
  | q :: r, p, h => by
    rw [meas_cons]
    rcases List.mem_cons.mp h with x | x
    · rw [x]; omega
    · have := le_meas x
      omega
theorem len_meas : ∀ {l : List Pn}, (∀ p ∈ l, 1 ≤ measP p) → l.length ≤ meas l
  | [], _ => Nat.zero_le _
  | p :: r, h => by
    have a := len_meas fun q hq => h q (List.mem_cons_of_mem _ hq)
    have b := h p List.mem_cons_self
    rw [meas_cons, List.length_cons]
    omega
theorem _root_.NM.Nm.small {m B : Nat} {l : List Pn} (h : Nm m l) (hb : meas l ≤ B) : l.length ≤ B ∧ Ws B l := by
  refine ⟨Nat.le_trans (len_meas fun p hp => ?_) hb, fun p hp => Nat.le_trans (measP_le (h.all p hp)) (Nat.le_trans (le_meas hp) hb)⟩
  exact Nat.le_trans (List.length_pos_iff.mpr (h.all p hp).ne) (measP_le (h.all p hp))
theorem nm_stepA' {m : Nat} {acc : List Pn} {p : Pn} (h : Nm m acc) (hl : p.2.length = m + 1) : Nm m (stepA acc p) ∧ meas (stepA acc p) ≤ meas acc + p.1.length := by
  refine ⟨nm_stepA h hl, ?_⟩
  unfold stepA
  split
  · next z =>
    have lt : (timesF (p.1.length / WM.rootN p.1) (0 :: p.2.tail)).length = m + 1 := by unfold timesF; simp [hl]
    have := meas_putP h (u := p.1.take (WM.rootN p.1)) lt (by simp [timesF])
    rw [List.length_take] at this
    omega
  · omega
theorem meas_take_step {ps : List Pn} {m i : Nat} {p : Pn} (h : LenF m ps) (hp : ps[i]? = some p) : meas ((ps.take i).foldl stepN []) + measP p ≤ meas ps := by
  have a := meas_fold (ps.take i) [] (Nm.nil (m := m)) fun q hq => h q (List.mem_of_mem_take hq)
  have e : meas ([] : List Pn) = 0 := rfl
  have hi := (List.getElem?_eq_some_iff.mp hp).1
  have s : ps = ps.take i ++ (p :: ps.drop (i + 1)) := by
    conv => lhs; rw [← List.take_append_drop i ps]
    rw [← List.getElem_cons_drop hi, (List.getElem?_eq_some_iff.mp hp).2]
  have b : meas ps = meas (ps.take i) + (measP p + meas (ps.drop (i + 1))) := by
    conv => lhs; rw [s]
    rw [meas_app, meas_cons]
  omega
section
variable {P : Program} {w : World} {K : PySem.W.Frag} {mg : Str → Option Value} {base : Heap} {C E_InvalidText E_InvalidNumber E_TooMany E_CountError : Addr}
def sp_normal_pieces : Sp := fun vs H Q _ => ∃ (l : Addr) (ps : List Pn) (m : Nat), vs = [.ref l] ∧ PL H l ps ∧ LenF m ps ∧ m ≤ 3 ∧ meas ps ≤ 5000 ∧ Ws 5000 ps ∧ (∀ p ∈ ps, Bf p.2) ∧ ps.length ≤ 100000 ∧
  ∀ r H', Same H H' → H r = none → PL H' r (normL ps) → Q (.ref r) H'
theorem c_normal_pieces (T : Txt K mg C E_InvalidText E_InvalidNumber E_TooMany E_CountError) : C8.Cal P w K mg base 4 "normal_pieces" sp_normal_pieces [] := by
  refine calF T.d_normal_pieces sc_normal_pieces (fun vs H Q E h => ?_) (fun f0 cdv A outer s H vs Q E hr h => ?_)
  · obtain ⟨_, _, _, rfl, _⟩ := h; rfl
  · obtain ⟨l, ps, m, rfl, ⟨vs, hl, hp⟩, lF, hm, hmeas, hws, hbf, hlen, q⟩ := h
    have lv := hp.len
    refine ⟨_, (pss_cons (ps_set (i := 1) sc_normal_pieces.nd rfl (Or.inl rfl) (pe_lst pa_nil))
    (pss_cons (ps_for PassesOwn.never rfl (pi_list (pv 0)) (pg_two (K := K) (i := 2) (j := 3) rfl rfl sc_normal_pieces.nd rfl rfl (Or.inl rfl) (Or.inl rfl))
    (pss_cons (ps_if (PW.pt (pw_and (pt_truth (pv 2) (by intro _; rfl)) (pw_and1 (pt_val (C8.pe_c (c_is_open_form T) hr (by decide) (by rfl) (pa_cons (pv 3) pa_nil))))))
    (pss_cons (ps_set (i := 4) sc_normal_pieces.nd rfl (Or.inl rfl) (C8.pe_c (c_root_size T) hr (by decide) (by rfl) (pa_cons (pv 2) pa_nil)))
    (pss_one (ps_expr (C8.pe_c (c_put_power T) hr (by decide) (by rfl) (pa_cons (pv 1) (pa_cons (pe_slice C8.sl_txt (pv 2) po_none (po_some (pv 4))) (pa_cons (C8.pe_c (c_form_times T) hr (by decide) (by rfl) (pa_cons (pe_op op_fdivZ (pe_callB call_len_str (by rfl) T.m_len (by decide +kernel) (pa_cons (pv 2) pa_nil)) (pv 4)) (pa_cons (pe_op op_catS (pe_tup (pa_cons pe_int pa_nil)) (pe_slice sl_drop (pv 3) (po_some pe_int) po_none)) pa_nil))) pa_nil)))))))
    pss_nil)
    (pss_one (ps_if (PW.pt (pw_and (pt_truth (pv 2) (by intro _; rfl)) (pw_and1 (pt_truth (pe_ix ix_tup (pv 3) pe_int (fun _ _ => rfl)) (by intro _; rfl)))))
    (pss_one (ps_expr (C8.pe_c (c_put_fixed T) hr (by decide) (by rfl) (pa_cons (pv 1) (pa_cons (pe_op op_repM (pv 2) (pe_ix ix_tup (pv 3) pe_int (fun _ _ => rfl))) (pa_cons (pe_op op_sub (pe_callB call_len_seq (by rfl) T.m_len (by decide +kernel) (pa_cons (pv 3) pa_nil)) pe_int) pa_nil))))))
    pss_nil))))
    (pss_one (ps_ret (pv 1))))), ?_⟩
    refine ⟨by show 0 ≤ sizeLine; omega, fun r hr0 => ?_⟩
    have rl : r ≠ l := fun z => by rw [z, hl] at hr0; cases hr0
    have s0 := sameNew (o := .lst []) hr0
    refine ⟨_, rfl, l, rfl, ⟨_, .inl (.inl (s0 _ _ hl))⟩, for_list (K := K) (a := l) (xs := vs) (fun i σ H' => Same H H' ∧ (∃ y2 y3 y4, σ = [some (.ref l), some (.ref r), y2, y3, y4]) ∧ PL H' r ((ps.take i).foldl stepN []))
      ⟨s0, ⟨none, none, none, rfl⟩, [], upd_same, .nil⟩ (fun i σ H' _ p => .inl (.inl (p.1 _ _ hl))) (fun i y σ H' hi pI => ?_) (fun σ H' pI => ?_)⟩
    · obtain ⟨s1, ⟨y2, y3, y4, rfl⟩, pl⟩ := pI
      obtain ⟨a, p, rfl, hpi, pc⟩ := hp.get hi
      have mem := List.mem_of_getElem? hpi
      have lp := lF p mem
      have wp := hws p mem
      have bp := hbf p mem
      have step := meas_take_step lF hpi
      have nm : Nm m ((ps.take i).foldl stepN []) := nm_fold _ [] .nil fun q hq => lF q (List.mem_of_mem_take hq)
      have et : (ps.take (i + 1)).foldl stepN [] = stepN ((ps.take i).foldl stepN []) p := by rw [List.take_succ, hpi, List.foldl_append]; rfl
      rw [et]
      generalize (ps.take i).foldl stepN [] = acc at pl nm step
      obtain ⟨nmA, mA⟩ := nm_stepA' nm lp
      have sm := nm.small (B := 5000) (by omega)
      have smA := nmA.small (B := 10000) (by omega)
      obtain ⟨fa, h1, h2⟩ := pc.mono (tup_same s1)
      refine ⟨a, _, rfl, .inl (.inl h1), rfl, _, _, rfl, _, _, rfl, rfl, ?_⟩
      refine cut_seq (fun σ' H2 => SameX r H' H2 ∧ (∃ y4, σ' = [some (.ref l), some (.ref r), some (.str (S p.1)), some (.ref fa), y4]) ∧ PL H2 r (stepA acc p)) (fun K hK => ?_) fun σ' H2 pM => ?_
      · refine ⟨_, rfl, _, tru_word (by omega), ?_⟩
        by_cases ne : p.1 = []
        · rw [decide_eq_false (fun z => z ne)]
          refine iteF (iteF (hK _ _ ⟨.refl _ _, ⟨_, rfl⟩, ?_⟩))
          have e : stepA acc p = acc := by unfold stepA; rw [if_neg fun z => z.1 ne]
          rw [e]
          exact pl
        · rw [decide_eq_true ne]
          refine iteT ⟨_, rfl, fa, p.2, rfl, h2, fun H1 s2 => ⟨_, rfl, ?_⟩⟩
          cases op : isOpen p.2 with
          | false =>
            refine iteF (hK _ _ ⟨.of s2, ⟨_, rfl⟩, ?_⟩)
            have e : stepA acc p = acc := by unfold stepA; rw [if_neg fun z => by rw [op] at z; exact Bool.false_ne_true z.2]
            rw [e]
            exact pl.same s2
          | true =>
            have n0 := List.length_pos_iff.mpr ne
            have r0 := WM.rootN_pos ne
            have rl' := WM.rootN_le ne
            refine iteT ⟨_, rfl, p.1, rfl, ne, by omega, fun H3 s3 => ?_⟩
            have e : stepA acc p = putP acc (p.1.take (WM.rootN p.1)) (timesF (p.1.length / WM.rootN p.1) (0 :: p.2.tail)) := by unfold stepA; rw [if_pos ⟨ne, op⟩]
            refine ⟨_, rfl, _, rfl, _, rfl, _, rfl, S p.1, rfl, len_line (by omega), _, rfl, S p.1, rfl, len_line (by omega), _, rfl, p.1.length, WM.rootN p.1, congrArg (fun n : Nat => V.int n) (S_len p.1), rfl, by omega, by omega, by show 1 ≤ sizeLine; decide, fun t1 n1 => ?_⟩
            have st1 := sameNew (o := .tup [V.int 0]) n1
            have h23 := st1 _ _ ((s2.trans s3) _ _ h2)
            refine ⟨_, rfl, 1, rfl, fa, _, 1, rfl, rfl, rfl, h23, fun p4 H4 s4 h4 => ?_⟩
            have l4 : ((p.2.map fun n : Nat => V.int (n : Nat)).drop 1).length ≤ 4 := by rw [List.length_drop, List.length_map]; omega
            refine ⟨t1, p4, _, _, rfl, rfl, s4 _ _ upd_same, h4, Nat.le_trans (Nat.add_le_add_left l4 1) (by decide), fun p5 H5 s5 h5 => ?_⟩
            have hF5 : FT H5 p5 (0 :: p.2.tail) := by
              unfold FT
              obtain ⟨x, f, ef⟩ : ∃ x f, p.2 = x :: f := by
                cases e : p.2 with
                | nil => rw [e] at lp; simp at lp
                | cons x f => exact ⟨x, f, rfl⟩
              rw [h5, ef]
              rfl
            have sk : p.1.length / WM.rootN p.1 ≤ p.1.length := Nat.div_le_self _ _
            refine ⟨p.1.length / WM.rootN p.1, p5, 0 :: p.2.tail, rfl, hF5, by simp [lp]; omega, by omega, fun n hn => ?_, fun p6 H6 s6 h6 => ?_⟩
            · rcases List.mem_cons.mp hn with x | x
              · omega
              · exact bp n (List.mem_of_mem_tail x)
            · have sAll : Same H' H6 := ((((s2.trans s3).trans st1).trans s4).trans s5).trans s6
              refine ⟨r, p6, acc, p.1.take (WM.rootN p.1), timesF (p.1.length / WM.rootN p.1) (0 :: p.2.tail), m, ?_, pl.same sAll, h6, by unfold timesF; simp [lp], nm.lenF, hm, by omega, fun z => ?_, by rw [List.length_take]; omega, fun x hx => by have := sm.2 x hx; omega, fun H7 s7 p7 => hK _ _ ⟨(SameX.of sAll).trans s7, ⟨_, rfl⟩, by rw [e]; exact p7⟩⟩
              · rw [SX.slice_to (by omega), Int.toNat_natCast]
                rfl
              · have := congrArg List.length z
                rw [List.length_take, List.length_nil] at this
                omega
      · obtain ⟨sX, ⟨y4, rfl⟩, plA⟩ := pM
        have rne : ∀ {b : Addr} {xs : List V}, H' b = some (.tup xs) → H2 b = some (.tup xs) := fun {b xs} e => by
          obtain ⟨us, hus, _⟩ := pl
          exact sX _ _ (fun z => by rw [z, hus] at e; cases e) e
        have h2' : FT H2 fa p.2 := rne h2
        have sH : ∀ {H3 : Hp}, SameX r H' H3 → Same H H3 := fun {H3} sx b o eb => sx _ _ (fun z => by rw [z, hr0] at eb; cases eb) (s1 _ _ eb)
        refine ⟨_, rfl, _, tru_word (by omega), ?_⟩
        have skip : ¬ (p.1 ≠ [] ∧ p.2.headD 0 ≠ 0) → PL H2 r (stepN acc p) := fun no => by
          have e : stepN acc p = stepA acc p := by
            unfold stepN stepB
            rw [if_neg no]
          rw [e]
          exact plA
        by_cases ne : p.1 = []
        · rw [decide_eq_false (fun z => z ne)]
          exact iteF (iteF ⟨sH sX, ⟨_, _, _, rfl⟩, skip fun z => z.1 ne⟩)
        · rw [decide_eq_true ne]
          refine iteT ⟨_, rfl, fa, _, 0, _, rfl, rfl, .inl (.inl h2'), atI_nat (j := 0) (head_get lp), _, rfl, ?_⟩
          by_cases h0 : p.2.headD 0 = 0
          · rw [h0]
            exact iteF ⟨sH sX, ⟨_, _, _, rfl⟩, skip fun z => z.2 h0⟩
          · rw [show ((((p.2.headD 0 : Nat) : Int)) != 0) = true by rw [bne_iff_ne]; omega]
            have mP : p.1.length * p.2.headD 0 ≤ measP p := by unfold measP; exact Nat.mul_le_mul_left _ (by omega)
            have n0 := List.length_pos_iff.mpr ne
            have hh : p.2.headD 0 ≤ p.1.length * p.2.headD 0 := Nat.le_mul_of_pos_left _ n0
            have lw : (WM.pw p.1 (p.2.headD 0)).length ≤ 5000 := by rw [WM.pw_len]; omega
            have lm : (((p.2.map fun n : Nat => V.int (n : Nat)).length : Nat) : Int) - 1 = (m : Int) := by rw [List.length_map, lp]; omega
            refine iteT ⟨_, rfl, _, rfl, _, rfl, fa, _, 0, _, rfl, rfl, .inl (.inl h2'), atI_nat (j := 0) (head_get lp), p.1, p.2.headD 0, rfl, rfl, by omega, by omega, by rw [Nat.mul_comm]; omega, ?_⟩
            refine ⟨_, rfl, fa, _, rfl, .inr (.inl (.inl h2')), _, _, rfl, rfl, r, stepA acc p, WM.pw p.1 (p.2.headD 0), m, ?_, plA, nmA.lenF, hm, by omega, by omega, fun x hx => by have := smA.2 x hx; omega, fun H3 s3 p3 => ⟨sH (sX.trans s3), ⟨_, _, _, rfl⟩, ?_⟩⟩
            · show [V.ref r, V.str (S (WM.pw p.1 (p.2.headD 0))), V.int ((((p.2.map fun n : Nat => V.int (n : Nat)).length : Nat) : Int) - 1)] = _
              rw [lm]
            · have e : stepN acc p = joinF (stepA acc p) (WM.pw p.1 (p.2.headD 0)) m := by unfold stepN stepB; rw [if_pos ⟨ne, h0⟩, lp]; rfl
              rw [e]
              exact p3
    · obtain ⟨s1, ⟨y2, y3, y4, rfl⟩, pl⟩ := pI
      rw [lv, List.take_length] at pl
      exact ⟨_, rfl, q r H' s1 hr0 pl⟩
end
end K59

set_option Elab.async false
set_option linter.all false
set_option maxRecDepth 100000
set_option maxHeartbeats 4000000
namespace K59
open PySem PySem.Spec PyProof.Rows L2 CK SX NM
/-! ### pieces as data -/
def dF (f : F) : PyData := .tuple (f.map fun n : Nat => PyData.int (n : Nat))
def dP (p : Pn) : PyData := .tuple [.str (S p.1), dF p.2]
theorem eqvAll_nats : ∀ f g : F, PyData.eqvAll (f.map fun n : Nat => PyData.int (n : Nat)) (g.map fun n : Nat => PyData.int (n : Nat)) = decide (f = g)
  | [], [] => by simp [PyData.eqvAll]
  | [], _ :: _ => by simp [PyData.eqvAll]
  | _ :: _, [] => by simp [PyData.eqvAll]
  | x :: f, y :: g => by
    rw [List.map_cons, List.map_cons, PyData.eqvAll, eqvAll_nats f g]
    simp [PyData.eqv, Bool.beq_eq_decide_eq]
    by_cases h : x = y
    · subst h
      simp
    · have h' : ¬ ((x : Int) = (y : Int)) := by omega
      simp [h, h']
theorem eqv_dP (p q : Pn) : PyData.eqv (dP p) (dP q) = decide (p = q) := by
  obtain ⟨a, f⟩ := p
  obtain ⟨b, g⟩ := q
  unfold dP dF
  simp only [PyData.eqv, PyData.eqvAll, eqvAll_nats, Bool.and_true]
  have e : (S a == S b) = decide (a = b) := S_beq_eq
  simp only [e]
  by_cases h1 : a = b <;> by_cases h2 : f = g <;> simp [h1, h2]
theorem eqvAll_dP : ∀ a b : List Pn, PyData.eqvAll (a.map dP) (b.map dP) = decide (a = b)
  | [], [] => by simp [PyData.eqvAll]
  | [], _ :: _ => by simp [PyData.eqvAll]
  | _ :: _, [] => by simp [PyData.eqvAll]
  | x :: f, y :: g => by
    rw [List.map_cons, List.map_cons, PyData.eqvAll, eqvAll_dP f g, eqv_dP]
    by_cases h : x = y <;> simp [h]
theorem eqv_dPs (a b : List Pn) : PyData.eqv (.list (a.map dP)) (.list (b.map dP)) = decide (a = b) := by
  rw [← eqvAll_dP]
  simp [PyData.eqv]
theorem str_low {w : List Nat} (h : Low w) : PyData.strOk (S w) = true := by
  unfold PyData.strOk
  rw [← Array.all_toList, List.all_eq_true]
  exact fun c hc => decide_eq_true (by have := h c hc; omega)
theorem lay_nats : ∀ f : F, PyData.canLayAll0 (f.map fun n : Nat => PyData.int (n : Nat)) = true
  | [] => by simp [PyData.canLayAll0]
  | n :: ns => by
    rw [List.map_cons, PyData.canLayAll0, lay_nats ns]
    simp [PyData.canLay0]
theorem deep_nats : ∀ f : F, PyData.depthAll (f.map fun n : Nat => PyData.int (n : Nat)) = 0
  | [] => by simp [PyData.depthAll]
  | n :: ns => by
    rw [List.map_cons, PyData.depthAll, deep_nats ns]
    simp [PyData.depth]
theorem lay_dP {p : Pn} (h : Low p.1) : (dP p).canLay0 = true := by simp [dP, dF, PyData.canLay0, PyData.canLayAll0, str_low h, lay_nats]
theorem deep_dP (p : Pn) : (dP p).depth = 2 := by simp [dP, dF, PyData.depth, PyData.depthAll, deep_nats]
theorem lay_dPs : ∀ ps : List Pn, (∀ p ∈ ps, Low p.1) → PyData.canLayAll0 (ps.map dP) = true
  | [], _ => by simp [PyData.canLayAll0]
  | p :: r, h => by
    rw [List.map_cons, PyData.canLayAll0, lay_dPs r fun q hq => h q (List.mem_cons_of_mem _ hq), lay_dP (h p List.mem_cons_self)]
    rfl
theorem deep_dPs : ∀ ps : List Pn, PyData.depthAll (ps.map dP) ≤ 2
  | [] => by simp [PyData.depthAll]
  | p :: r => by
    have := deep_dPs r
    rw [List.map_cons, PyData.depthAll, deep_dP]
    omega
theorem shaped_dPs {ps : List Pn} (h : ∀ p ∈ ps, Low p.1) : SeqAt.shaped (.list (ps.map dP)) = true := by
  unfold SeqAt.shaped
  rw [PyData.canLay0, lay_dPs ps h, PyData.depth]
  have := deep_dPs ps
  rw [decide_eq_true (by omega)]
  rfl
section
variable {K : PySem.W.Frag} {H : Hp}
theorem dpAll_nats : ∀ f : F, DpAll K H (f.map fun n : Nat => V.int (n : Nat)) (f.map fun n : Nat => PyData.int (n : Nat))
  | [] => .nil
  | n :: ns => .cons (.int _) (dpAll_nats ns)
theorem dp_FT {a : Addr} {f : F} (h : FT H a f) : Dp K H (.ref a) (dF f) := .tup (.inl (.inl h)) (dpAll_nats f)
theorem dp_PC {a : Addr} {p : Pn} (h : PC H a p) : Dp K H (.ref a) (dP p) := by
  obtain ⟨fa, h1, h2⟩ := h
  exact .tup (.inl (.inl h1)) (.cons (.str _) (.cons (dp_FT h2) .nil))
theorem dpAll_Pcs {vs : List V} {ps : List Pn} (h : Pcs H vs ps) : DpAll K H vs (ps.map dP) := by
  induction h with
  | nil => exact .nil
  | cons e _ ih => exact .cons (dp_PC e) ih
theorem dp_PL {l : Addr} {ps : List Pn} (h : PL H l ps) : Dp K H (.ref l) (.list (ps.map dP)) := by
  obtain ⟨vs, e, p⟩ := h
  exact .lst (.inl (.inl e)) (dpAll_Pcs p)
end
/-! ### letters stay letters -/
def LowP (ps : List Pn) : Prop := ∀ p ∈ ps, Low p.1
theorem low_app {a b : List Nat} (h : Low a) (g : Low b) : Low (a ++ b) := fun c hc => (List.mem_append.mp hc).elim (h c) (g c)
theorem low_take {a : List Nat} (h : Low a) (n : Nat) : Low (a.take n) := fun c hc => h c (List.mem_of_mem_take hc)
theorem low_drop {a : List Nat} (h : Low a) (n : Nat) : Low (a.drop n) := fun c hc => h c (List.mem_of_mem_drop hc)
theorem low_pw {a : List Nat} (h : Low a) : ∀ n, Low (WM.pw a n)
  | 0 => fun c hc => absurd hc List.not_mem_nil
  | n + 1 => by rw [WM.pw_succ]; exact low_app h (low_pw h n)
theorem low_rotR {u : List Nat} (h : Low u) (k : Nat) : Low (rotR u k) := low_app (low_drop h _) (low_take h _)
theorem lowP_joinF {acc : List Pn} {z : WM.W} {m : Nat} (h : LowP acc) (hz : Low z) : LowP (joinF acc z m) := fun p hp => by
  rcases mem_joinF hp with x | x | ⟨q, hq, x⟩
  · exact h p x
  · rw [x]; exact hz
  · rw [x]; exact low_app (h q hq) hz
theorem lowP_pushP {acc : List Pn} {u : WM.W} {f : F} (h : LowP acc) (hu : Low u) : LowP (pushP acc u f) := fun p hp => by
  unfold pushP at hp
  split at hp
  · split at hp
    · rcases List.mem_append.mp hp with x | x
      · exact h p (mem_dropLast x)
      · rw [List.mem_singleton.mp x]; exact hu
    · rcases List.mem_append.mp hp with x | x
      · exact h p x
      · rw [List.mem_singleton.mp x]; exact hu
  · rcases List.mem_append.mp hp with x | x
    · exact h p x
    · rw [List.mem_singleton.mp x]; exact hu
theorem low_nil : Low [] := fun c hc => absurd hc List.not_mem_nil
theorem lowP_putP {acc : List Pn} {u : WM.W} {f : F} (h : LowP acc) (hu : Low u) : LowP (putP acc u f) := by
  unfold putP
  split
  · next q hq =>
    split
    · exact lowP_joinF (lowP_pushP h hu) low_nil
    · have lq := h q (List.mem_of_getLast? hq)
      exact lowP_joinF (lowP_pushP (lowP_joinF (fun p hp => h p (mem_dropLast hp)) (low_take lq _)) (low_rotR hu _)) (low_drop lq _)
  · exact lowP_joinF (lowP_pushP h hu) low_nil
theorem lowP_fold : ∀ (ps acc : List Pn), LowP acc → LowP ps → LowP (ps.foldl stepN acc)
  | [], _, h, _ => h
  | p :: r, acc, h, hp => lowP_fold r _ (by
      have lp := hp p List.mem_cons_self
      have hA : LowP (stepA acc p) := by
        unfold stepA
        split
        · exact lowP_putP h (low_take lp _)
        · exact h
      show LowP (stepB (stepA acc p) p)
      unfold stepB
      split
      · exact lowP_joinF hA (low_pw lp _)
      · exact hA) fun q hq => hp q (List.mem_cons_of_mem _ hq)
theorem lowP_normL {ps : List Pn} (h : LowP ps) : LowP (normL ps) := lowP_fold ps [] (fun p hp => absurd hp List.not_mem_nil) h
end K59

set_option Elab.async false
set_option linter.all false
set_option maxRecDepth 100000
set_option maxHeartbeats 4000000
namespace K59
open PySem PySem.Spec PyProof.Rows L2 CK SX NM
theorem sum_meas : ∀ ps : List Pn, (ps.map fun p => ((measP p : Nat) : Int)).sum = ((meas ps : Nat) : Int)
  | [] => rfl
  | p :: r => by
    rw [List.map_cons, List.sum_cons, sum_meas r, meas_cons, Int.natCast_add]
/-- a value that is a piece, or one of the wrong ones that are met -/
inductive PV (H : Hp) (m : Nat) : V → Bool → Prop
  | good {a : Addr} {p : Pn} : PC H a p → p.2.length = m + 1 → p.1.length ≤ 2000 → Low p.1 → PV H m (.ref a) true
  | non : PV H m .non false
  | lst {a : Addr} {xs : List V} : H a = some (.lst xs) → PV H m (.ref a) false
  | long {a fa : Addr} {z : List Nat} : H a = some (.tup [.str (S z), .ref fa]) → 2000 < z.length → z.length ≤ 1000000 → Low z → PV H m (.ref a) false
theorem PV.same {H H' : Hp} {m : Nat} {v : V} {b : Bool} (h : PV H m v b) (s : Same H H') : PV H' m v b := by
  cases h with
  | good h1 h2 h3 h4 => exact .good (h1.mono (tup_same s)) h2 h3 h4
  | non => exact .non
  | lst h => exact .lst (s _ _ h)
  | long h1 h2 h3 h4 => exact .long (s _ _ h1) h2 h3 h4
section
variable {P : Program} {w : World} {K : PySem.W.Frag} {mg : Str → Option Value} {base : Heap} {C E_InvalidText E_InvalidNumber E_TooMany E_CountError : Addr}
def sp_is_piece : Sp := fun vs H Q _ => ∃ (m : Nat) (v : V) (b : Bool), vs = [.int m, v] ∧ m ≤ 3 ∧ PV H m v b ∧ ∀ H', Same H H' → Q (.bl b) H'
theorem c_is_piece (T : Txt K mg C E_InvalidText E_InvalidNumber E_TooMany E_CountError) : C8.Cal P w K mg base 4 "is_piece" sp_is_piece [] := by
  refine calF T.d_is_piece sc_is_piece (fun vs H Q E h => ?_) (fun f cdv A outer s H vs Q E hr h => ?_)
  · obtain ⟨_, _, _, rfl, _⟩ := h; rfl
  · obtain ⟨m, v, b, rfl, m3, hv, q⟩ := h
    refine ⟨_, (pss_cons (ps_if (PW.pt (pw_or (pt_not (pt_val (pe_callB call_isK (by rfl) T.m_isinstance (by decide +kernel) (pa_cons (pv 1) (pa_cons (pe_bltn (v := .ty "tuple") (by rfl) T.m_tuple (by decide +kernel) rfl) pa_nil))))) (pw_or1 (pt_cmpR op_ne (pe_callB call_len_seq (by rfl) T.m_len (by decide +kernel) (pa_cons (pv 1) pa_nil)) pe_int (nomark _)))))
    (pss_one (ps_ret pe_bl))
    pss_nil)
    (pss_one (ps_ret (pe_and (C8.pe_c (c_is_lettered T) hr (by decide) (by rfl) (pa_cons (pe_ix ix_tup (pv 1) pe_int (fun _ _ => rfl)) (pa_cons (C8.pe_gc (by rfl) T.k_MOST_PIECE_LETTERS) pa_nil))) (pe_one (C8.pe_c (c_is_form_for T) hr (by decide) (by rfl) (pa_cons (pv 0) (pa_cons (pe_ix ix_tup (pv 1) pe_int (fun _ _ => rfl)) pa_nil)))))))), ?_⟩
    cases hv with
    | non => exact ⟨_, rfl, .non, "tuple", _, rfl, .non, kit_tuple .non, _, rfl, iteT (q H (Same.refl _))⟩
    | lst h =>
      rename_i a xs
      have kn : Kn H (.ref a) := .lst h
      refine ⟨_, rfl, .ref a, "tuple", _, rfl, kn, kit_tuple kn, _, rfl, ?_⟩
      rw [show isTu H (.ref a) = false by simp only [isTu, h]]
      exact iteT (q H (Same.refl _))
    | long h1 h2 h3 h4 =>
      rename_i a fa z
      have kn : Kn H (.ref a) := .tup h1
      refine ⟨_, rfl, .ref a, "tuple", _, rfl, kn, kit_tuple kn, _, rfl, ?_⟩
      rw [isTu_tup h1]
      refine iteF ⟨_, rfl, a, _, rfl, .inr (.inl (.inl h1)), rfl, _, rfl, iteF ?_⟩
      refine ⟨_, rfl, a, _, 0, _, rfl, rfl, .inl (.inl h1), atI_nat (j := 0) rfl, z, 2000, rfl, h3, h4, _, rfl, ?_⟩
      rw [decide_eq_false (by omega)]
      exact iteF (q H (Same.refl _))
    | good h1 h2 h3 h4 =>
      rename_i a p
      obtain ⟨fa, e1, e2⟩ := h1
      have kn : Kn H (.ref a) := .tup e1
      refine ⟨_, rfl, .ref a, "tuple", _, rfl, kn, kit_tuple kn, _, rfl, ?_⟩
      rw [isTu_tup e1]
      refine iteF ⟨_, rfl, a, _, rfl, .inr (.inl (.inl e1)), rfl, _, rfl, iteF ?_⟩
      refine ⟨_, rfl, a, _, 0, _, rfl, rfl, .inl (.inl e1), atI_nat (j := 0) rfl, p.1, 2000, rfl, by omega, h4, _, rfl, ?_⟩
      rw [decide_eq_true (show p.1.length ≤ 2000 from h3)]
      refine iteT ⟨_, rfl, _, rfl, a, _, 1, _, rfl, rfl, .inl (.inl e1), atI_nat (j := 1) rfl, (m : Int), .ref fa, rfl, .tup e2, fun b xs eb hb => ?_, fun H1 s1 => ?_⟩
      · cases eb
        have := hb.symm.trans e2
        cases this
        exact ⟨small1000 (by rw [List.length_map, h2]; omega), kn_nats⟩
      · rw [formB_FT e2 h2]
        exact q H1 s1
def sp_measure : Sp := fun vs H Q _ => ∃ (l : Addr) (ps : List Pn) (m : Nat), vs = [.ref l] ∧ PL H l ps ∧ LenF m ps ∧ Ws 1000000 ps ∧ (∀ p ∈ ps, Bf p.2) ∧ ps.length ≤ 1000000 ∧ ∀ H', Same H H' → Q (.int (meas ps : Nat)) H'
theorem c_measure (T : Txt K mg C E_InvalidText E_InvalidNumber E_TooMany E_CountError) : C8.Cal P w K mg base 2 "measure" sp_measure [] := by
  refine calF T.d_measure sc_measure (fun vs H Q E h => ?_) (fun f cdv A outer s H vs Q E hr h => ?_)
  · obtain ⟨_, _, _, rfl, _⟩ := h; rfl
  · obtain ⟨l, ps, m, rfl, ⟨vs, hl, hp⟩, lF, ws, bf, hlen, q⟩ := h
    have len := hp.len
    refine ⟨_, (pss_one (ps_ret (pe_callB (cr_sum rfl) (by rfl) T.m_sum (by decide +kernel) (pa_cons (pe_lc (own := [("word", 1), ("form", 2)]) (by rfl) sc_measure.nd (pi_list (pv 0)) (blkOk_by (N := ["pieces", "word", "form"]) (sc := C8.fnScope (topS 36)) (own := [("word", 1), ("form", 2)]) (by decide +kernel)) (fun _ _ _ _ _ => (pg_two (K := K) (i := 1) (j := 2) rfl rfl sc_measure.nd rfl rfl (Or.inl rfl) (Or.inl rfl))) (fun _ _ _ _ _ => pts_nil) (fun _ _ _ _ _ => (pe_op op_mulZ (pe_callB call_len_str (by rfl) T.m_len (by decide +kernel) (pa_cons (pv 1) pa_nil)) (pe_op op_addB (pe_ix ix_tupH (pv 2) pe_int (fun _ _ => rfl)) (C8.pe_c (c_is_open_form T) hr (by decide) (by rfl) (pa_cons (pv 2) pa_nil)))))) pa_nil)))), ?_⟩
    refine ⟨_, rfl, l, rfl, ⟨_, .inl (.inl hl)⟩, fun D hD => ?_⟩
    refine lc_list (K := K) (a := l) (xs := vs) (fun i H1 => Same H H1 ∧ H1 D = some (.lst ((ps.take i).map fun p => V.int ((measP p : Nat) : Int)))) ⟨sameNew hD, by rw [upd_same]; rfl⟩ (fun i H1 _ p => .inl (.inl (p.1 _ _ hl))) (fun i y H1 hi p => ?_) fun H1 p => ?_
    · obtain ⟨s1, hD1⟩ := p
      obtain ⟨a, p, rfl, hpi, pc⟩ := hp.get hi
      have mem := List.mem_of_getElem? hpi
      have hii := (List.getElem?_eq_some_iff.mp hpi).1
      have lp := lF p mem
      have wp := ws p mem
      obtain ⟨fa, e1, e2⟩ := pc.mono (tup_same s1)
      have bh : p.2.headD 0 < 2 ^ 900 := by
        cases e : p.2 with
        | nil => rw [e] at lp; simp at lp
        | cons x f => exact bf p mem x (by rw [e]; exact List.mem_cons_self)
      refine ⟨a, _, rfl, .inl (.inl e1), rfl, _, _, rfl, _, _, rfl, rfl, rfl, ?_⟩
      refine ⟨_, rfl, S p.1, rfl, len_line (by omega), _, rfl, fa, _, 0, _, rfl, rfl, e2, atI_nat (j := 0) (head_get lp), _, rfl, fa, p.2, rfl, e2, fun H2 s2 => ?_⟩
      refine ⟨_, _, rfl, rfl, p.1.length, p.2.headD 0 + (if isOpen p.2 then 1 else 0), congrArg (fun n : Nat => V.int n) (S_len _), congrArg V.int (by split <;> simp), by omega, by split <;> omega, _, s2 _ _ hD1, ?_, same_upd2 hD (s1.trans s2), ?_⟩
      · rw [List.length_map, List.length_take, sizeLine_eq]
        omega
      · rw [upd_same, List.take_succ, hpi]
        simp [measP]
    · obtain ⟨s1, hD1⟩ := p
      rw [len, List.take_length] at hD1
      refine ⟨D, ps.map fun p => ((measP p : Nat) : Int), rfl, .inl (.inl (by rw [hD1, List.map_map]; rfl)), ?_⟩
      rw [sum_meas]
      exact q _ s1
end
end K59

set_option Elab.async false
set_option linter.all false
set_option maxRecDepth 100000
set_option maxHeartbeats 4000000
namespace K59
open PySem PySem.Spec PyProof.Rows L2 CK SX NM
/-- a list of pieces, as the program lets it -/
structure GL (H : Hp) (m : Nat) (l : Addr) (ps : List Pn) : Prop where
  at_ : PL H l ps
  len : LenF m ps
  ws : Ws 2000 ps
  low : LowP ps
  bf : ∀ p ∈ ps, Bf p.2
  few : ps.length ≤ 5000
theorem GL.same {H H' : Hp} {m : Nat} {l : Addr} {ps : List Pn} (h : GL H m l ps) (s : Same H H') : GL H' m l ps := ⟨h.at_.same s, h.len, h.ws, h.low, h.bf, h.few⟩
inductive PLV (H : Hp) (m : Nat) : V → Bool → Prop
  | tup {a : Addr} {xs : List V} : H a = some (.tup xs) → PLV H m (.ref a) false
  | bad {l : Addr} {vs : List V} {bs : List Bool} : H l = some (.lst vs) → vs.length ≤ 5000 → bs.length = vs.length → (∀ (i : Nat) (v : V) (b : Bool), vs[i]? = some v → bs[i]? = some b → PV H m v b) → bs.all id = false → PLV H m (.ref l) false
  | good {l : Addr} {ps : List Pn} : GL H m l ps → PLV H m (.ref l) (decide (meas ps ≤ 2000))
theorem small1000000 {n : Nat} (h : n ≤ 1000000) : n < sizeLine := by rw [sizeLine_eq]; omega
theorem range_bools (bs : List Bool) : (List.range bs.length).map (fun i => V.bl (bs.getD i false)) = bs.map V.bl := by
  refine List.ext_getElem? fun i => ?_
  by_cases h : i < bs.length
  · rw [List.getElem?_map, List.getElem?_range h, List.getElem?_map, List.getElem?_eq_getElem h]
    show some (V.bl (bs.getD i false)) = some (V.bl bs[i])
    rw [List.getD_eq_getElem?_getD, List.getElem?_eq_getElem h]
    rfl
  · rw [List.getElem?_eq_none (by simp; omega), List.getElem?_eq_none (by simp; omega)]
section
variable {P : Program} {w : World} {K : PySem.W.Frag} {mg : Str → Option Value} {base : Heap} {C E_InvalidText E_InvalidNumber E_TooMany E_CountError : Addr}
def sp_need_measure : Sp := fun vs H Q _ => ∃ (n : Nat), vs = [.int n] ∧ n ≤ 2000 ∧ Q .non H
theorem c_need_measure (T : Txt K mg C E_InvalidText E_InvalidNumber E_TooMany E_CountError) : C8.Cal P w K mg base 1 "need_measure" sp_need_measure [] := by
  refine calF T.d_need_measure sc_need_measure (fun vs H Q E h => ?_) (fun f cdv A outer s H vs Q E hr h => ?_)
  · obtain ⟨_, rfl, _⟩ := h; rfl
  · obtain ⟨n, rfl, hn, q⟩ := h
    refine ⟨_, (pss_one (ps_if (pt_cmpR op_gt (pv 0) (C8.pe_gc (by rfl) T.k_MOST_MEASURE) (nomark _))
    (pss_one ps_never)
    pss_nil)), ?_⟩
    refine ⟨_, rfl, _, 2000, rfl, rfl, _, rfl, ?_⟩
    rw [decide_eq_false (by omega)]
    exact iteF q
def sp_need_pieces : Sp := fun vs H Q _ => ∃ (m : Nat) (l : Addr) (ps : List Pn), vs = [.int m, .ref l] ∧ m ≤ 3 ∧ GL H m l ps ∧ meas ps ≤ 2000 ∧ ∀ H', Same H H' → Q .non H'
theorem c_need_pieces (T : Txt K mg C E_InvalidText E_InvalidNumber E_TooMany E_CountError) : C8.Cal P w K mg base 5 "need_pieces" sp_need_pieces [] := by
  refine calF T.d_need_pieces sc_need_pieces (fun vs H Q E h => ?_) (fun f cdv A outer s H vs Q E hr h => ?_)
  · obtain ⟨_, _, _, rfl, _⟩ := h; rfl
  · obtain ⟨m, l, ps, rfl, m3, g, hme, q⟩ := h
    obtain ⟨vs, h1, hp⟩ := id g.at_
    have lv := hp.len
    have hf := g.few
    have kn : Kn H (.ref l) := .lst h1
    refine ⟨_, (pss_cons (ps_expr (C8.pe_c (c_need_many T) hr (by decide) (by rfl) (pa_cons (pv 0) pa_nil)))
    (pss_cons (ps_if (PW.pt (pw_or (pt_not (pt_val (pe_callB call_isK (by rfl) T.m_isinstance (by decide +kernel) (pa_cons (pv 1) (pa_cons (pe_bltn (v := .ty "list") (by rfl) T.m_list (by decide +kernel) rfl) pa_nil))))) (pw_or1 (pt_cmpR op_gt (pe_callB call_len_seq (by rfl) T.m_len (by decide +kernel) (pa_cons (pv 1) pa_nil)) (C8.pe_gc (by rfl) T.k_MOST_PIECES) (nomark _)))))
    (pss_one ps_never)
    pss_nil)
    (pss_cons (ps_for PassesOwn.never rfl (pi_list (pv 1)) (pg_name (i := 2) sc_need_pieces.nd rfl (Or.inl rfl))
    (pss_one (ps_if (pt_not (pt_val (C8.pe_c (c_is_piece T) hr (by decide) (by rfl) (pa_cons (pv 0) (pa_cons (pv 2) pa_nil)))))
    (pss_one ps_never)
    pss_nil)))
    (pss_one (ps_expr (C8.pe_c (c_need_measure T) hr (by decide) (by rfl) (pa_cons (C8.pe_c (c_measure T) hr (by decide) (by rfl) (pa_cons (pv 1) pa_nil)) pa_nil))))))), ?_⟩
    refine ⟨_, rfl, m, rfl, by omega, by omega, ?_⟩
    refine ⟨_, rfl, .ref l, "list", _, rfl, kn, kit_list kn, _, rfl, ?_⟩
    rw [isLi_lst h1]
    refine iteF ⟨_, rfl, l, _, rfl, .inl (.inl (.inl h1)), _, 5000, rfl, rfl, _, rfl, ?_⟩
    rw [decide_eq_false (by omega)]
    refine iteF ?_
    refine ⟨_, rfl, l, rfl, ⟨_, .inl (.inl h1)⟩, for_list (K := K) (a := l) (xs := vs) (fun i σ H' => Same H H' ∧ ∃ y2, σ = [some (.int m), some (.ref l), y2]) ⟨Same.refl _, none, rfl⟩ (fun i σ H' _ p => .inl (.inl (p.1 _ _ h1))) (fun i y σ H' hi p => ?_) (fun σ H' p => ?_)⟩
    · obtain ⟨s1, y2, rfl⟩ := p
      obtain ⟨a, p, rfl, hpi, pc⟩ := hp.get hi
      have mem := List.mem_of_getElem? hpi
      exact ⟨_, rfl, _, rfl, m, _, true, rfl, m3, .good (pc.mono (tup_same s1)) (g.len p mem) (g.ws p mem) (g.low p mem), fun H2 s2 => ⟨_, rfl, iteF ⟨s1.trans s2, _, rfl⟩⟩⟩
    · obtain ⟨s1, y2, rfl⟩ := p
      exact ⟨_, rfl, l, ps, m, rfl, g.at_.same s1, g.len, fun p hp => by have := g.ws p hp; omega, g.bf, by omega, fun H2 s2 => ⟨meas ps, rfl, hme, q H2 (s1.trans s2)⟩⟩
def sp_normal : Sp := fun vs H Q _ => ∃ (m : Nat) (l : Addr) (ps : List Pn), vs = [.int m, .ref l] ∧ m ≤ 3 ∧ GL H m l ps ∧ meas ps ≤ 2000 ∧ ∀ r H', Same H H' → H r = none → PL H' r (normL ps) → Q (.ref r) H'
theorem c_normal (T : Txt K mg C E_InvalidText E_InvalidNumber E_TooMany E_CountError) : C8.Cal P w K mg base 6 "normal" sp_normal [] := by
  refine calF T.d_normal sc_normal (fun vs H Q E h => ?_) (fun f cdv A outer s H vs Q E hr h => ?_)
  · obtain ⟨_, _, _, rfl, _⟩ := h; rfl
  · obtain ⟨m, l, ps, rfl, m3, g, hme, q⟩ := h
    have hf := g.few
    refine ⟨_, (pss_cons (ps_expr (C8.pe_c (c_need_pieces T) hr (by decide) (by rfl) (pa_cons (pv 0) (pa_cons (pv 1) pa_nil))))
    (pss_one (ps_ret (C8.pe_c (c_normal_pieces T) hr (by decide) (by rfl) (pa_cons (pv 1) pa_nil))))), ?_⟩
    exact ⟨_, rfl, _, rfl, m, l, ps, rfl, m3, g, hme, fun H1 s1 => ⟨_, rfl, l, ps, m, rfl, g.at_.same s1, g.len, m3, by omega, fun p hp => by have := g.ws p hp; omega, g.bf, by omega, fun r H2 s2 n2 p2 => q r H2 (s1.trans s2) (s1.free n2) p2⟩⟩
end
end K59

set_option linter.all false
set_option maxRecDepth 100000
namespace NM
open WM
/-! ### a word is no power exactly if it stands in itself doubled, without the first letter, at the end first -/
/-- w stands at the place k + 1 of w w -/
def Occ (w : W) (k : Nat) : Prop := ((w ++ w).drop (k + 1)).take w.length = w
theorem dbl_get {w : W} (h : w ≠ []) {i : Nat} (hi : i < 2 * w.length) : (w ++ w)[i]? = w[i % w.length]? := by
  have n0 := List.length_pos_iff.mpr h
  by_cases z : i < w.length
  · rw [List.getElem?_append_left z, Nat.mod_eq_of_lt z]
  · rw [List.getElem?_append_right (by omega), Nat.mod_eq_sub_mod (show i ≥ w.length by omega), Nat.mod_eq_of_lt (by omega)]
theorem occ_get {w : W} (h : w ≠ []) {k : Nat} (hk : k + 1 ≤ w.length) : Occ w k ↔ ∀ i, i < w.length → w[(k + 1 + i) % w.length]? = w[i]? := by
  unfold Occ
  constructor
  · intro e i hi
    have : (((w ++ w).drop (k + 1)).take w.length)[i]? = w[i]? := by rw [e]
    rw [List.getElem?_take_of_lt hi, List.getElem?_drop, dbl_get h (by omega)] at this
    exact this
  · intro e
    refine List.ext_getElem? fun i => ?_
    by_cases hi : i < w.length
    · rw [List.getElem?_take_of_lt hi, List.getElem?_drop, dbl_get h (by omega)]
      exact e i hi
    · rw [List.getElem?_eq_none (by rw [List.length_take]; omega), List.getElem?_eq_none (by omega)]
theorem occ_last {w : W} (h : w ≠ []) : Occ w (w.length - 1) := by
  have n0 := List.length_pos_iff.mpr h
  refine (occ_get h (by omega)).mpr fun i hi => ?_
  rw [show w.length - 1 + 1 + i = i + w.length by omega, Nat.add_mod_right, Nat.mod_eq_of_lt hi]
/-- an earlier place makes a shorter period -/
theorem occ_not_prim {w : W} (h : w ≠ []) {k : Nat} (hk : k + 1 < w.length) (o : Occ w k) : ¬ Prim w := by
  intro pr
  have n0 := List.length_pos_iff.mpr h
  have e := (occ_get h (by omega)).mp o
  -- the word doubled has the periods k + 1 and its half
  have dl : (w ++ w).length = 2 * w.length := by rw [List.length_append]; omega
  have p1 : Per (k + 1) (w ++ w) := fun i hi => by
    rw [dl] at hi
    rw [dbl_get h (by omega), dbl_get h hi]
    have := e (i % w.length) (Nat.mod_lt _ n0)
    rw [← this]
    congr 1
    rw [Nat.add_mod_mod, Nat.add_comm]
  have p2 : Per w.length (w ++ w) := fun i hi => by
    rw [dl] at hi
    rw [dbl_get h (by omega), dbl_get h hi, Nat.add_mod_right]
  have g := per_gcd p1 p2 (by rw [dl]; omega)
  have gp : 0 < Nat.gcd (k + 1) w.length := Nat.gcd_pos_of_pos_left _ (by omega)
  have gd : Nat.gcd (k + 1) w.length ∣ w.length := Nat.gcd_dvd_right _ _
  have gl : Nat.gcd (k + 1) w.length ≤ k + 1 := Nat.le_of_dvd (by omega) (Nat.gcd_dvd_left _ _)
  have pw' : Per (Nat.gcd (k + 1) w.length) w := by
    have := per_take (k := w.length) g
    rw [List.take_left] at this
    exact this
  have := pr.2 _ gp gd pw'
  omega
theorem not_prim_occ {w : W} (h : w ≠ []) (np : ¬ Prim w) : ∃ k, k + 1 < w.length ∧ Occ w k := by
  have n0 := List.length_pos_iff.mpr h
  have : ∃ d, 0 < d ∧ d ∣ w.length ∧ Per d w ∧ d ≠ w.length := Classical.byContradiction fun z => np ⟨h, fun d h1 h2 h3 => Classical.byContradiction fun y => z ⟨d, h1, h2, h3, y⟩⟩
  obtain ⟨d, h1, h2, h3, h4⟩ := this
  have dl := Nat.le_of_dvd n0 h2
  refine ⟨d - 1, by omega, (occ_get h (by omega)).mpr fun i hi => ?_⟩
  rw [show d - 1 + 1 + i = i + d by omega, per_at h1 h3 (Nat.mod_lt _ n0), per_at h1 h3 hi, Nat.mod_mod_of_dvd _ h2, Nat.add_mod_right]
/-! ### the law's rules -/
theorem isPow_one {p : Pn} {m : Nat} (h : p.2 = one1 m) : isPow p = false := by
  unfold isPow
  rw [h]
  rfl
theorem sum_zero : ∀ {l : List Nat}, l.sum = 0 ↔ ∀ x ∈ l, x = 0
  | [] => by simp
  | a :: l => by
    rw [List.sum_cons]
    constructor
    · intro h x hx
      rcases List.mem_cons.mp hx with z | z
      · omega
      · exact sum_zero.mp (show l.sum = 0 by omega) x z
    · intro h
      have a0 := h a List.mem_cons_self
      have := sum_zero.mpr fun x hx => h x (List.mem_cons_of_mem _ hx)
      omega
/-- what the law asks of a piece -/
def okP (m : Nat) (p : Pn) : Prop := (Prim p.1 ∨ p.2 = one1 m) ∧ p.1 ≠ [] ∧ (p.2 = one1 m ∨ (p.2.headD 0 = 0 ∧ p.2.sum ≠ 0))
theorem okP_iff {m : Nat} {p : Pn} (hl : p.2.length = m + 1) : okP m p ↔ NormP m p := by
  constructor
  · rintro ⟨h1, h2, h3⟩
    refine ⟨h2, hl, fun z => ?_, fun z => ?_⟩
    · rcases h3 with y | y
      · exact y
      · have : isPow p = true := decide_eq_true y.1
        rw [this] at z
        cases z
    · rcases h3 with y | y
      · rw [isPow_one y] at z
        cases z
      · have ne1 : p.2 ≠ one1 m := fun x => by rw [isPow_one x] at z; cases z
        refine ⟨h1.resolve_right ne1, ?_⟩
        cases e : isOpen p.2 with
        | true => rfl
        | false =>
          exfalso
          apply y.2
          refine sum_zero.mpr fun x hx => ?_
          cases ep : p.2 with
          | nil => rw [ep] at hx; cases hx
          | cons a f =>
            rw [ep] at hx
            rcases List.mem_cons.mp hx with w | w
            · have := y.1
              rw [ep] at this
              rw [w]
              exact this
            · refine Classical.byContradiction fun x0 => ?_
              have : isOpen p.2 = true := isOpen_iff.mpr ⟨x, by rw [ep]; exact w, x0⟩
              rw [e] at this
              cases this
  · intro h
    cases e : isPow p with
    | false => exact ⟨.inr (h.fix e), h.ne, .inl (h.fix e)⟩
    | true =>
      obtain ⟨a, b⟩ := h.pow e
      refine ⟨.inl a, h.ne, .inr ⟨of_decide_eq_true e, fun z => ?_⟩⟩
      obtain ⟨x, hx, x0⟩ := isOpen_iff.mp b
      exact x0 (sum_zero.mp z x (List.mem_of_mem_tail hx))
/-- what the law asks of two neighbours -/
def okA (m : Nat) (p q : Pn) : Prop := ¬ (p.2 = one1 m ∧ q.2 = one1 m) ∧ ¬ (p.2 ≠ one1 m ∧ q.2 ≠ one1 m ∧ p.1 = q.1) ∧ ¬ (p.2 = one1 m ∧ p.1.getLast? = q.1.getLast?)
theorem fix_iff {m : Nat} {p : Pn} (h : NormP m p) : isPow p = false ↔ p.2 = one1 m := ⟨h.fix, isPow_one⟩
theorem okA_iff {m : Nat} {p q : Pn} (hp : NormP m p) (hq : NormP m q) : okA m p q ↔ Adj p q := by
  have fp := fix_iff hp
  have fq := fix_iff hq
  constructor
  · rintro ⟨h1, h2, h3⟩
    refine ⟨fun z => ⟨?_, fun y => h3 ⟨fp.mp z, y⟩⟩, fun z y x => ?_⟩
    · cases e : isPow q with
      | true => rfl
      | false => exact absurd ⟨fp.mp z, fq.mp e⟩ h1
    · refine h2 ⟨fun w => ?_, fun w => ?_, x⟩
      · rw [fp.mpr w] at z
        cases z
      · rw [fq.mpr w] at y
        cases y
  · intro h
    refine ⟨fun z => ?_, fun z => ?_, fun z => (h.fix (fp.mpr z.1)).2 z.2⟩
    · have := (h.fix (fp.mpr z.1)).1
      rw [fq.mpr z.2] at this
      cases this
    · have e1 : isPow p = true := by
        cases e : isPow p with
        | true => rfl
        | false => exact absurd (fp.mp e) z.1
      have e2 : isPow q = true := by
        cases e : isPow q with
        | true => rfl
        | false => exact absurd (fq.mp e) z.2.1
      exact h.pow e1 e2 z.2.2
theorem nm_iff {m : Nat} {ps : List Pn} (hl : LenF m ps) : Nm m ps ↔ (∀ p ∈ ps, okP m p) ∧ ∀ (i : Nat) (p q : Pn), ps[i]? = some p → ps[i + 1]? = some q → okA m p q := by
  constructor
  · intro h
    exact ⟨fun p hp => (okP_iff (hl p hp)).mpr (h.all p hp), fun i p q hi hj => (okA_iff (h.all p (List.mem_of_getElem? hi)) (h.all q (List.mem_of_getElem? hj))).mpr (h.adj i p q hi hj)⟩
  · rintro ⟨h1, h2⟩
    have all : ∀ p ∈ ps, NormP m p := fun p hp => (okP_iff (hl p hp)).mp (h1 p hp)
    exact ⟨all, fun i p q hi hj => (okA_iff (all p (List.mem_of_getElem? hi)) (all q (List.mem_of_getElem? hj))).mp (h2 i p q hi hj)⟩
theorem normL_iff {m : Nat} {ps : List Pn} (hl : LenF m ps) : normL ps = ps ↔ Nm m ps := ⟨fun e => by rw [← e]; exact nm_normL hl, normL_id⟩
theorem wr_flat (pt : List Nat) : ∀ ps : List Pn, ((ps.filter fun p => decide (p.1 ≠ [])).map (wrt pt)).flatten = wr pt ps
  | [] => rfl
  | p :: r => by
    by_cases h : p.1 = []
    · rw [List.filter_cons_of_neg (by simp [h]), wr_flat pt r, wr]
      unfold wrt
      rw [h, pw_nil, List.nil_append]
    · rw [List.filter_cons_of_pos (by simp [h]), List.map_cons, List.flatten_cons, wr_flat pt r, wr]
theorem wrt_le {pt : List Nat} : ∀ {ps : List Pn} {p : Pn}, p ∈ ps → (wrt pt p).length ≤ (wr pt ps).length
  | q :: r, p, h => by
    rw [wr, List.length_append]
    rcases List.mem_cons.mp h with z | z
    · rw [z]
      omega
    · have := wrt_le (pt := pt) z
      omega
end NM

set_option linter.all false
set_option maxRecDepth 100000
namespace NM
open WM
/-! ### how long what is written can be -/
theorem le_sumN : ∀ {f : List Nat} {x : Nat}, x ∈ f → x ≤ f.sum
  | a :: l, x, h => by
    rw [List.sum_cons]
    rcases List.mem_cons.mp h with z | z
    · omega
    · have := le_sumN z
      omega
theorem dot_ones : ∀ (f : List Nat), dot f (List.replicate f.length 1) = f.sum
  | [] => rfl
  | a :: l => by
    rw [List.length_cons, List.replicate_succ, dot, dot_ones l, List.sum_cons]
    omega
theorem mem_val {f : F} {m x : Nat} (hl : f.length = m + 1) (hx : x ∈ f) : x ≤ valF f (List.replicate m 1) := by
  cases f with
  | nil => cases hx
  | cons a l =>
    have e : l.length = m := by simpa using hl
    unfold valF
    rw [List.tail_cons, ← e, dot_ones]
    show x ≤ a + l.sum
    rcases List.mem_cons.mp hx with z | z
    · omega
    · have := le_sumN z
      omega
theorem dot_le {B c : Nat} : ∀ (f pt : List Nat), (∀ x ∈ f, x ≤ B) → (∀ x ∈ pt, x ≤ c) → dot f pt ≤ f.length * (B * c)
  | [], _, _, _ => by simp [dot]
  | _ :: _, [], _, _ => by simp [dot]
  | x :: xs, y :: ys, h, g => by
    have a := dot_le xs ys (fun z hz => h z (List.mem_cons_of_mem _ hz)) (fun z hz => g z (List.mem_cons_of_mem _ hz))
    have b : x * y ≤ B * c := Nat.mul_le_mul (h x List.mem_cons_self) (g y List.mem_cons_self)
    rw [dot, List.length_cons, Nat.succ_mul]
    omega
theorem wr_le {pt : List Nat} {k : Nat} : ∀ ps : List Pn, (∀ p ∈ ps, (wrt pt p).length ≤ k) → (wr pt ps).length ≤ ps.length * k
  | [], _ => by simp [wr]
  | p :: r, h => by
    have a := wr_le r fun q hq => h q (List.mem_cons_of_mem _ hq)
    have b := h p List.mem_cons_self
    rw [wr, List.length_append, List.length_cons, Nat.succ_mul]
    omega
theorem val_le3 {f : F} {pt : List Nat} {m : Nat} (hl : f.length = m + 1) (hm : m ≤ 3) (hf : ∀ x ∈ f, x ≤ 3) (hp : ∀ x ∈ pt, x ≤ 3) : valF f pt ≤ 30 := by
  cases f with
  | nil => simp at hl
  | cons a l =>
    have e : l.length = m := by simpa using hl
    have d := dot_le (B := 3) (c := 3) l pt (fun x hx => hf x (List.mem_cons_of_mem _ hx)) hp
    have h0 := hf a List.mem_cons_self
    have : l.length * (3 * 3) ≤ 3 * 9 := Nat.mul_le_mul (by omega) (by decide)
    unfold valF
    show a + dot l pt ≤ 30
    omega
theorem wrt_le3 {p : Pn} {pt : List Nat} {m : Nat} (hl : p.2.length = m + 1) (hm : m ≤ 3) (hw : p.1.length ≤ 12) (hf : ∀ x ∈ p.2, x ≤ 3) (hp : ∀ x ∈ pt, x ≤ 3) : (wrt pt p).length ≤ 360 := by
  have v := val_le3 hl hm hf hp
  have e : (wrt pt p).length = p.1.length * valF p.2 pt := pw_len _ _
  rw [e]
  exact Nat.mul_le_mul hw v
theorem meas_le {k : Nat} : ∀ ps : List Pn, (∀ p ∈ ps, measP p ≤ k) → meas ps ≤ ps.length * k
  | [], _ => by simp [meas]
  | p :: r, h => by
    have a := meas_le r fun q hq => h q (List.mem_cons_of_mem _ hq)
    have b := h p List.mem_cons_self
    have e : meas (p :: r) = measP p + meas r := by simp [meas]
    rw [e, List.length_cons, Nat.succ_mul]
    omega
theorem measP_le48 {p : Pn} {m : Nat} (hl : p.2.length = m + 1) (hw : p.1.length ≤ 12) (hf : ∀ x ∈ p.2, x ≤ 3) : measP p ≤ 48 := by
  have h0 : p.2.headD 0 ≤ 3 := by
    cases e : p.2 with
    | nil => rw [e] at hl; simp at hl
    | cons a l => exact hf a (by rw [e]; exact List.mem_cons_self)
  unfold measP
  have : p.2.headD 0 + (if isOpen p.2 = true then 1 else 0) ≤ 4 := by split <;> omega
  exact Nat.mul_le_mul hw this
/-- the numbers of a normal list are no greater than what it writes at ones -/
theorem num_le {m k : Nat} {ps : List Pn} (h : LenF m ps) (hk : (wr (List.replicate m 1) ps).length ≤ k) {p : Pn} (hp : p ∈ normL ps) {x : Nat} (hx : x ∈ p.2) : x ≤ k := by
  have nm := nm_normL h
  have np := nm.all p hp
  have n0 := List.length_pos_iff.mpr np.ne
  have a := mem_val np.len hx
  have b := wrt_le (pt := List.replicate m 1) hp
  rw [wr_normL h] at b
  have e : (wrt (List.replicate m 1) p).length = p.1.length * valF p.2 (List.replicate m 1) := pw_len _ _
  have c : valF p.2 (List.replicate m 1) ≤ p.1.length * valF p.2 (List.replicate m 1) := Nat.le_mul_of_pos_left _ n0
  omega
/-! ### lists that are spoilt -/
theorem nm_mem {m : Nat} {ps : List Pn} {p : Pn} (hp : p ∈ ps) (h : ¬ NormP m p) : ¬ Nm m ps := fun z => h (z.all p hp)
theorem norm_empty {m : Nat} {f : F} : ¬ NormP m ([], f) := fun z => z.ne rfl
theorem norm_zeros {m : Nat} {w : W} : ¬ NormP m (w, 0 :: List.replicate m 0) := fun z => by
  have a := (z.pow rfl).2
  obtain ⟨x, hx, h⟩ := isOpen_iff.mp a
  exact h (List.eq_of_mem_replicate hx)
/-! ### a fixed piece, a letter's power, a fixed piece -/
theorem prim_one (c : Nat) : Prim [c] := ⟨by simp, fun d h1 h2 _ => by
  have := Nat.le_of_dvd (by simp) h2
  simp at this ⊢
  omega⟩
def longP (m a b c i j : Nat) : List Pn := [(List.replicate i a, one1 m), ([b], 0 :: 1 :: List.replicate (m - 1) 0), (List.replicate j c, one1 m)]
theorem nm_long {m a b c i j : Nat} (hm : 1 ≤ m) (hab : a ≠ b) (hi : 0 < i) (hj : 0 < j) : Nm m (longP m a b c i j) := by
  have l2 : (0 :: 1 :: List.replicate (m - 1) 0).length = m + 1 := by simp; omega
  refine ⟨fun p hp => ?_, fun k p q hk hk' => ?_⟩
  · rcases List.mem_cons.mp hp with z | z
    · rw [z]
      exact fixP_norm (fun y => by have := congrArg List.length y; simp at this; omega)
    rcases List.mem_cons.mp z with z | z
    · rw [z]
      exact (pow_norm (prim_one b) l2 rfl rfl).1
    · rw [List.mem_singleton.mp z]
      exact fixP_norm (fun y => by have := congrArg List.length y; simp at this; omega)
  · match k, hk, hk' with
    | 0, hk, hk' =>
      cases hk
      cases hk'
      refine ⟨fun _ => ⟨rfl, fun y => hab ?_⟩, fun z => by cases z⟩
      have e1 : (List.replicate i a).getLast? = some a := by
        rw [List.getLast?_eq_getElem?, List.length_replicate, List.getElem?_replicate, if_pos (by omega)]
      have y' : (List.replicate i a).getLast? = [b].getLast? := y
      rw [e1] at y'
      simpa using y'
    | 1, hk, hk' =>
      cases hk
      cases hk'
      exact ⟨fun z => (by cases z), fun _ z => (by cases z)⟩
    | 2, hk, hk' => simp [longP] at hk'
    | (k + 3), hk, hk' => simp [longP] at hk
theorem meas_long {m a b c i j : Nat} (hm : 1 ≤ m) : meas (longP m a b c i j) = i + 1 + j := by
  have h1 : ∀ (w : W), measP (w, one1 m) = w.length := fun w => measP_fix w m
  have h2 : measP ([b], 0 :: 1 :: List.replicate (m - 1) 0) = 1 := rfl
  unfold longP meas
  simp [h1, h2]
  omega
end NM

set_option linter.all false
set_option maxRecDepth 100000
/-! two normal lists that write the same word at enough points are the same -/
namespace NM
open WM
theorem gcd_last {a b : Nat} (ha : 0 < a) (hb : 0 < b) : (a - 1) % Nat.gcd a b = (b - 1) % Nat.gcd a b := by
  have g0 : 0 < Nat.gcd a b := Nat.gcd_pos_of_pos_left _ ha
  have key : ∀ c, 0 < c → Nat.gcd a b ∣ c → (c - 1) % Nat.gcd a b = Nat.gcd a b - 1 := fun c hc hd => by
    obtain ⟨k, rfl⟩ := hd
    cases k with
    | zero => simp at hc
    | succ k =>
      rw [Nat.mul_succ, show Nat.gcd a b * k + Nat.gcd a b - 1 = Nat.gcd a b * k + (Nat.gcd a b - 1) by omega, Nat.mul_add_mod, Nat.mod_eq_of_lt (by omega)]
  rw [key a ha (Nat.gcd_dvd_left _ _), key b hb (Nat.gcd_dvd_right _ _)]
theorem app_get {α : Type} {A B : List α} {i : Nat} (h : i < A.length) : (A ++ B)[i]? = A[i]? := List.getElem?_append_left h
/-- letters ahead of a power that go on with another power could have been moved -/
theorem turn_last {u v x A B : W} {i j : Nat} (hu : u ≠ []) (hv : v ≠ []) (hx : x ≠ []) (h : pw u i ++ A = x ++ (pw v j ++ B)) (hi : x.length + u.length + v.length ≤ u.length * i) (hj : u.length + v.length ≤ v.length * j) : x.getLast? = v.getLast? := by
  have u0 := List.length_pos_iff.mpr hu
  have v0 := List.length_pos_iff.mpr hv
  have x0 := List.length_pos_iff.mpr hx
  have lu : (pw u i).length = u.length * i := pw_len _ _
  have lv : (pw v j).length = v.length * j := pw_len _ _
  have left : ∀ k, k < x.length + u.length + v.length → (x ++ (pw v j ++ B))[k]? = u[k % u.length]? := fun k hk => by
    rw [← h, app_get (by omega), pw_get hu i k (by omega)]
  have right : ∀ k, k < u.length + v.length → (x ++ (pw v j ++ B))[x.length + k]? = (pw v j)[k]? := fun k hk => by
    rw [List.getElem?_append_right (by omega), show x.length + k - x.length = k by omega, app_get (by omega)]
  have lz : ((pw v j).take (u.length + v.length)).length = u.length + v.length := by rw [List.length_take]; omega
  have zget : ∀ k, k < u.length + v.length → ((pw v j).take (u.length + v.length))[k]? = (pw v j)[k]? := fun k hk => List.getElem?_take_of_lt hk
  have p1 : Per v.length ((pw v j).take (u.length + v.length)) := per_take (pw_per hv j)
  have p2 : Per u.length ((pw v j).take (u.length + v.length)) := fun k hk => by
    rw [lz] at hk
    rw [zget k (by omega), zget (k + u.length) hk, ← right k (by omega), ← right (k + u.length) hk, left _ (by omega), left _ (by omega)]
    congr 1
    rw [← Nat.add_assoc, Nat.add_mod_right]
  have pd := per_gcd p2 p1 (by rw [lz]; exact Nat.le_refl _)
  have d0 : 0 < Nat.gcd u.length v.length := Nat.gcd_pos_of_pos_left _ u0
  have a1 := per_at d0 pd (i := u.length - 1) (by rw [lz]; omega)
  have a2 := per_at d0 pd (i := v.length - 1) (by rw [lz]; omega)
  rw [gcd_last u0 v0, ← a2] at a1
  have e1 : x.getLast? = (x ++ (pw v j ++ B))[x.length - 1]? := by
    rw [List.getLast?_eq_getElem?, app_get (by omega)]
  have e2 : (x ++ (pw v j ++ B))[x.length - 1]? = (x ++ (pw v j ++ B))[x.length + (u.length - 1)]? := by
    rw [left _ (by omega), left _ (by omega)]
    congr 1
    rw [show x.length + (u.length - 1) = x.length - 1 + u.length by omega, Nat.add_mod_right]
  have e3 : (pw v j)[v.length - 1]? = v.getLast? := by
    rw [pw_get hv j _ (by omega), Nat.mod_eq_of_lt (by omega), List.getLast?_eq_getElem?]
  rw [e1, e2, right _ (by omega), ← zget _ (by omega), a1, zget _ (by omega), e3]
/-- two powers of primitive words that begin alike are of one word -/
theorem pow_same {u v A B : W} {i j : Nat} (hu : Prim u) (hv : Prim v) (h : pw u i ++ A = pw v j ++ B) (hi : u.length + v.length ≤ u.length * i) (hj : u.length + v.length ≤ v.length * j) : u = v := by
  have u0 := List.length_pos_iff.mpr hu.1
  have v0 := List.length_pos_iff.mpr hv.1
  have lu : (pw u i).length = u.length * i := pw_len _ _
  have lv : (pw v j).length = v.length * j := pw_len _ _
  have ez : (pw u i).take (u.length + v.length) = (pw v j).take (u.length + v.length) := by
    have : (pw u i ++ A).take (u.length + v.length) = (pw v j ++ B).take (u.length + v.length) := by rw [h]
    rw [List.take_append_of_le_length (by omega), List.take_append_of_le_length (by omega)] at this
    exact this
  have lz : ((pw u i).take (u.length + v.length)).length = u.length + v.length := by rw [List.length_take]; omega
  have p1 : Per u.length ((pw u i).take (u.length + v.length)) := per_take (pw_per hu.1 i)
  have p2 : Per v.length ((pw u i).take (u.length + v.length)) := by rw [ez]; exact per_take (pw_per hv.1 j)
  have pd := per_gcd p1 p2 (by rw [lz]; exact Nat.le_refl _)
  have tu : ((pw u i).take (u.length + v.length)).take u.length = u := by
    rw [List.take_take, Nat.min_eq_left (by omega)]
    refine List.ext_getElem? fun k => ?_
    by_cases hk : k < u.length
    · rw [List.getElem?_take_of_lt hk, pw_get hu.1 i k (by omega), Nat.mod_eq_of_lt hk]
    · rw [List.getElem?_eq_none (by rw [List.length_take]; omega), List.getElem?_eq_none (by omega)]
  have tv : ((pw u i).take (u.length + v.length)).take v.length = v := by
    rw [ez, List.take_take, Nat.min_eq_left (by omega)]
    refine List.ext_getElem? fun k => ?_
    by_cases hk : k < v.length
    · rw [List.getElem?_take_of_lt hk, pw_get hv.1 j k (by omega), Nat.mod_eq_of_lt hk]
    · rw [List.getElem?_eq_none (by rw [List.length_take]; omega), List.getElem?_eq_none (by omega)]
  have d0 : 0 < Nat.gcd u.length v.length := Nat.gcd_pos_of_pos_left _ u0
  have pu : Per (Nat.gcd u.length v.length) u := by
    have := per_take (k := u.length) pd
    rw [tu] at this
    exact this
  have pv : Per (Nat.gcd u.length v.length) v := by
    have := per_take (k := v.length) pd
    rw [tv] at this
    exact this
  have du := hu.2 _ d0 (Nat.gcd_dvd_left _ _) pu
  have dv := hv.2 _ d0 (Nat.gcd_dvd_right _ _) pv
  have el : u.length = v.length := du.symm.trans dv
  exact (tu.symm.trans (congrArg (fun n => ((pw u i).take (u.length + v.length)).take n) el)).trans tv
/-- a point of numbers of at least N -/
def Far (m N : Nat) (pt : List Nat) : Prop := pt.length = m ∧ ∀ x ∈ pt, N ≤ x
theorem dot_far {N : Nat} : ∀ (f pt : List Nat), f.length = pt.length → (∃ x ∈ f, x ≠ 0) → (∀ x ∈ pt, N ≤ x) → N ≤ dot f pt
  | [], _, _, h, _ => by obtain ⟨x, hx, _⟩ := h; cases hx
  | _ :: _, [], hl, _, _ => by simp at hl
  | a :: f, b :: pt, hl, h, hp => by
    rw [dot]
    by_cases z : a = 0
    · have : ∃ x ∈ f, x ≠ 0 := by
        obtain ⟨x, hx, x0⟩ := h
        rcases List.mem_cons.mp hx with y | y
        · exact absurd (y.trans z) x0
        · exact ⟨x, y, x0⟩
      have := dot_far f pt (by simpa using hl) this fun x hx => hp x (List.mem_cons_of_mem _ hx)
      omega
    · have := hp b List.mem_cons_self
      have : b ≤ a * b := Nat.le_mul_of_pos_left _ (by omega)
      omega
theorem val_far {m N : Nat} {f : F} {pt : List Nat} (hl : f.length = m + 1) (ho : isOpen f = true) (hp : Far m N pt) : N ≤ valF f pt := by
  have := dot_far f.tail pt (by rw [List.length_tail, hl, hp.1]; rfl) (isOpen_iff.mp ho) hp.2
  unfold valF
  omega
def tot (ps : List Pn) : Nat := (ps.map fun p => p.1.length).sum
theorem tot_cons (p : Pn) (r : List Pn) : tot (p :: r) = p.1.length + tot r := by simp [tot]
theorem Nm.tail {m : Nat} {p : Pn} {r : List Pn} (h : Nm m (p :: r)) : Nm m r := ⟨fun q hq => h.all q (List.mem_cons_of_mem _ hq), fun i a b ha hb => h.adj (i + 1) a b ha hb⟩
theorem Nm.head {m : Nat} {p : Pn} {r : List Pn} (h : Nm m (p :: r)) : NormP m p := h.all p List.mem_cons_self
theorem Nm.adj0 {m : Nat} {p q : Pn} {r : List Pn} (h : Nm m (p :: q :: r)) : Adj p q := h.adj 0 p q rfl rfl
/-- what does not begin with u does not begin with a great power of u -/
theorem no_begin {m N k : Nat} {u R : W} {pt : List Nat} (hu : Prim u) : ∀ {r : List Pn}, Nm m r → (∀ q, r.head? = some q → isPow q = true → q.1 ≠ u) → Far m N pt → u.length + tot r + 1 ≤ N → N ≤ k → wr pt r = pw u k ++ R → False
  | [], _, _, _, _, hk, e => by
    have u0 := List.length_pos_iff.mpr hu.1
    have := congrArg List.length e
    rw [List.length_append, pw_len, wr] at this
    have : k ≤ u.length * k := Nat.le_mul_of_pos_left _ u0
    simp at *
    omega
  | q :: t, nm, hq, far, hN, hk, e => by
    have u0 := List.length_pos_iff.mpr hu.1
    have uk : k ≤ u.length * k := Nat.le_mul_of_pos_left _ u0
    have nq := nm.head
    have q0 := List.length_pos_iff.mpr nq.ne
    rw [tot_cons] at hN
    rw [wr] at e
    cases ep : isPow q with
    | true =>
      obtain ⟨pr, op⟩ := nq.pow ep
      have v := val_far nq.len op far
      have qv : valF q.2 pt ≤ q.1.length * valF q.2 pt := Nat.le_mul_of_pos_left _ q0
      exact hq q rfl ep (pow_same pr hu e (by omega) (by omega))
    | false =>
      have ef : wrt pt q = q.1 := by
        have := nq.fix ep
        unfold wrt
        rw [this, val_one, pw_one]
      rw [ef] at e
      match t, nm, e, hN with
      | [], nm, e, hN =>
        have := congrArg List.length e
        rw [wr, List.append_nil, List.length_append, pw_len] at this
        omega
      | q2 :: t2, nm, e, hN =>
        have ad := nm.adj0.fix ep
        have n2 := nm.tail.head
        obtain ⟨_, op⟩ := n2.pow ad.1
        have v := val_far n2.len op far
        have q20 := List.length_pos_iff.mpr n2.ne
        have qv : valF q2.2 pt ≤ q2.1.length * valF q2.2 pt := Nat.le_mul_of_pos_left _ q20
        rw [tot_cons] at hN
        rw [wr] at e
        have e' : pw u k ++ R = q.1 ++ (pw q2.1 (valF q2.2 pt) ++ wr pt t2) := e.symm
        exact ad.2 (turn_last hu.1 n2.ne nq.ne e' (by omega) (by omega))
/-- points that tell forms apart, with great numbers -/
structure Rich (m : Nat) (Sp : List Nat → Prop) : Prop where
  far : ∀ N, ∃ pt, Sp pt ∧ Far m N pt
  part : ∀ (N : Nat) (f g : F), f.length = m + 1 → g.length = m + 1 → f.headD 0 = 0 → g.headD 0 = 0 → f ≠ g → ∃ pt, Sp pt ∧ Far m N pt ∧ (valF f pt + N ≤ valF g pt ∨ valF g pt + N ≤ valF f pt)
theorem uni {m : Nat} {Sp : List Nat → Prop} (hS : Rich m Sp) : ∀ {a b : List Pn}, Nm m a → Nm m b → (∀ pt, Sp pt → wr pt a = wr pt b) → a = b
  | [], [], _, _, _ => rfl
  | [], q :: t, _, nb, e => by
    exfalso
    obtain ⟨pt, sp, far⟩ := hS.far 1
    have := congrArg List.length (e pt sp)
    have nq := nb.head
    have q0 := List.length_pos_iff.mpr nq.ne
    have v : 1 ≤ valF q.2 pt := by
      cases ep : isPow q with
      | true => exact val_far nq.len (nq.pow ep).2 far
      | false => rw [nq.fix ep, val_one]; exact Nat.le_refl _
    have lw : (wrt pt q).length = q.1.length * valF q.2 pt := pw_len _ _
    have : 0 < q.1.length * valF q.2 pt := Nat.mul_pos q0 v
    have h := e pt sp
    rw [wr, wr] at h
    have h2 := congrArg List.length h
    rw [List.length_append] at h2
    simp only [List.length_nil] at h2
    omega
  | p :: r, [], na, _, e => by
    exfalso
    obtain ⟨pt, sp, far⟩ := hS.far 1
    have := congrArg List.length (e pt sp)
    have nq := na.head
    have q0 := List.length_pos_iff.mpr nq.ne
    have v : 1 ≤ valF p.2 pt := by
      cases ep : isPow p with
      | true => exact val_far nq.len (nq.pow ep).2 far
      | false => rw [nq.fix ep, val_one]; exact Nat.le_refl _
    have lw : (wrt pt p).length = p.1.length * valF p.2 pt := pw_len _ _
    have : 0 < p.1.length * valF p.2 pt := Nat.mul_pos q0 v
    have h := e pt sp
    rw [wr, wr] at h
    have h2 := congrArg List.length h
    rw [List.length_append] at h2
    simp only [List.length_nil] at h2
    omega
  | p :: r, q :: t, na, nb, e => by
    have np := na.head
    have nq := nb.head
    have p0 := List.length_pos_iff.mpr np.ne
    have q0 := List.length_pos_iff.mpr nq.ne
    have one : ∀ {c : Pn}, NormP m c → isPow c = false → ∀ pt, wrt pt c = c.1 := fun {c} nc ec pt => by
      unfold wrt
      rw [nc.fix ec, val_one, pw_one]
    -- a power against a fixed piece
    have mixed : ∀ {c d : Pn} {l k : List Pn}, Nm m (c :: l) → Nm m (d :: k) → isPow c = true → isPow d = false → (∀ pt, Sp pt → wr pt (c :: l) = wr pt (d :: k)) → False := fun {c d l k} nc nd ec ed he => by
      obtain ⟨pt, sp, far⟩ := hS.far (c.1.length + tot (d :: k) + 1)
      obtain ⟨prc, opc⟩ := nc.head.pow ec
      refine no_begin (R := wr pt l) (k := valF c.2 pt) prc nd (fun z hz hp => ?_) far (Nat.le_refl _) (val_far nc.head.len opc far) (he pt sp).symm
      cases hz
      rw [ed] at hp
      cases hp
    -- two fixed pieces, the one shorter
    have shorter : ∀ {c d : Pn} {l k : List Pn}, Nm m (c :: l) → Nm m (d :: k) → isPow c = false → isPow d = false → c.1.length < d.1.length → (∀ pt, Sp pt → wr pt (c :: l) = wr pt (d :: k)) → False := fun {c d l k} nc nd ec ed hl he => by
      have ex : ∀ pt, Sp pt → d.1 = c.1 ++ d.1.drop c.1.length ∧ wr pt l = d.1.drop c.1.length ++ wr pt k := fun pt sp => by
        have := he pt sp
        rw [wr, wr, one nc.head ec, one nd.head ed] at this
        have h1 : (c.1 ++ wr pt l).take c.1.length = (d.1 ++ wr pt k).take c.1.length := by rw [this]
        rw [List.take_left, List.take_append_of_le_length (by omega)] at h1
        have sp' : d.1 = c.1 ++ d.1.drop c.1.length := by
          conv => lhs; rw [← List.take_append_drop c.1.length d.1, ← h1]
        refine ⟨sp', ?_⟩
        rw [sp', List.append_assoc] at this
        exact List.append_cancel_left this
      have xne : d.1.drop c.1.length ≠ [] := fun z => by
        have := congrArg List.length z
        rw [List.length_drop, List.length_nil] at this
        omega
      match l, nc, ex with
      | [], _, ex =>
        obtain ⟨pt, sp, _⟩ := hS.far 0
        have := (ex pt sp).2
        rw [wr] at this
        exact xne (List.append_eq_nil_iff.mp this.symm).1
      | y :: l', nc, ex =>
        have ad := nc.adj0.fix ec
        have ny := nc.tail.head
        obtain ⟨pry, opy⟩ := ny.pow ad.1
        obtain ⟨pt, sp, far⟩ := hS.far (y.1.length + tot ((d.1.drop c.1.length, one1 m) :: k) + 1)
        have nx : Nm m ((d.1.drop c.1.length, one1 m) :: k) := by
          refine ⟨fun z hz => ?_, fun i a b ha hb => ?_⟩
          · rcases List.mem_cons.mp hz with w | w
            · rw [w]; exact fixP_norm xne
            · exact nd.all z (List.mem_cons_of_mem _ w)
          · cases i with
            | succ i => exact nd.adj (i + 1) a b ha hb
            | zero =>
              cases ha
              have hb' : (d :: k)[0 + 1]? = some b := hb
              have := (nd.adj 0 d b rfl hb').fix ed
              refine ⟨fun _ => ⟨this.1, fun w => this.2 ?_⟩, fun z => by cases z⟩
              have e1 := (ex pt sp).1
              have w' : (d.1.drop c.1.length).getLast? = b.1.getLast? := w
              rw [← w']
              conv => lhs; rw [e1]
              rw [List.getLast?_append]
              cases hz : (d.1.drop c.1.length).getLast? with
              | none => exact absurd (List.getLast?_eq_none_iff.mp hz) xne
              | some c => rfl
        refine no_begin (R := wr pt l') (k := valF y.2 pt) pry nx (fun z hz hp => ?_) far (Nat.le_refl _) (val_far ny.len opy far) ?_
        · cases hz
          cases hp
        · have := (ex pt sp).2
          rw [wr] at this
          rw [wr, one (c := (d.1.drop c.1.length, one1 m)) (fixP_norm xne) rfl]
          exact this.symm
    have same : p = q → p :: r = q :: t := fun e1 => by
      subst e1
      have : r = t := uni hS na.tail nb.tail fun pt sp => by
        have := e pt sp
        rw [wr, wr] at this
        exact List.append_cancel_left this
      rw [this]
    cases ep : isPow p with
    | true =>
      cases eq' : isPow q with
      | false => exact (mixed na nb ep eq' e).elim
      | true =>
        obtain ⟨prp, opp⟩ := np.pow ep
        obtain ⟨prq, opq⟩ := nq.pow eq'
        have ew : p.1 = q.1 := by
          obtain ⟨pt, sp, far⟩ := hS.far (p.1.length + q.1.length)
          have v1 := val_far np.len opp far
          have v2 := val_far nq.len opq far
          have m1 : valF p.2 pt ≤ p.1.length * valF p.2 pt := Nat.le_mul_of_pos_left _ p0
          have m2 : valF q.2 pt ≤ q.1.length * valF q.2 pt := Nat.le_mul_of_pos_left _ q0
          have h := e pt sp
          rw [wr, wr] at h
          exact pow_same prp prq h (by omega) (by omega)
        by_cases ef : p.2 = q.2
        · exact same (Prod.ext ew ef)
        · exfalso
          have h0 : p.2.headD 0 = 0 := of_decide_eq_true ep
          have h1 : q.2.headD 0 = 0 := of_decide_eq_true eq'
          obtain ⟨pt, sp, far, hd⟩ := hS.part (p.1.length + tot r + tot t + 1) p.2 q.2 np.len nq.len h0 h1 ef
          have h := e pt sp
          rw [wr, wr] at h
          unfold wrt at h
          rcases hd with hd | hd
          · have s : pw q.1 (valF q.2 pt) = pw p.1 (valF p.2 pt) ++ pw p.1 (valF q.2 pt - valF p.2 pt) := by rw [← pw_add, ew]; congr 1; omega
            rw [s, List.append_assoc] at h
            refine no_begin (r := r) prp na.tail (fun z hz hp => ?_) far (by omega) (show _ ≤ valF q.2 pt - valF p.2 pt by omega) (List.append_cancel_left h)
            match r, na, hz with
            | z' :: r', na, hz =>
              cases hz
              exact fun y => na.adj0.pow ep hp y.symm
          · have s : pw p.1 (valF p.2 pt) = pw q.1 (valF q.2 pt) ++ pw q.1 (valF p.2 pt - valF q.2 pt) := by rw [← pw_add, ew]; congr 1; omega
            rw [s, List.append_assoc] at h
            refine no_begin (r := t) prq nb.tail (fun z hz hp => ?_) far (by rw [← ew]; omega) (show _ ≤ valF p.2 pt - valF q.2 pt by omega) (List.append_cancel_left h).symm
            match t, nb, hz with
            | z' :: r', nb, hz =>
              cases hz
              exact fun y => nb.adj0.pow eq' hp y.symm
    | false =>
      cases eq' : isPow q with
      | true => exact (mixed nb na eq' ep fun pt sp => (e pt sp).symm).elim
      | false =>
        have h1 := np.fix ep
        have h2 := nq.fix eq'
        by_cases hl : p.1.length < q.1.length
        · exact (shorter na nb ep eq' hl e).elim
        · by_cases hl2 : q.1.length < p.1.length
          · exact (shorter nb na eq' ep hl2 fun pt sp => (e pt sp).symm).elim
          · obtain ⟨pt, sp, _⟩ := hS.far 0
            have h := e pt sp
            rw [wr, wr, one np ep, one nq eq'] at h
            have := (List.append_inj h (by omega)).1
            exact same (Prod.ext this (h1.trans h2.symm))
/-! ### enough points -/
theorem dot_split : ∀ (f pt : List Nat) (j x y : Nat), f[j]? = some x → pt[j]? = some y → x * y ≤ dot f pt
  | a :: f, b :: pt, 0, x, y, hf, hp => by
    cases hf
    cases hp
    rw [dot]
    omega
  | a :: f, b :: pt, j + 1, x, y, hf, hp => by
    have := dot_split f pt j x y hf hp
    rw [dot]
    omega
  | [], _, _, _, _, hf, _ => by simp at hf
  | _ :: _, [], _, _, _, _, hp => by simp at hp
theorem dot_rest {M : Nat} : ∀ (f pt : List Nat) (j x y : Nat), f[j]? = some x → pt[j]? = some y → (∀ i z, i ≠ j → pt[i]? = some z → z ≤ M) → dot f pt ≤ x * y + f.sum * M
  | a :: f, b :: pt, 0, x, y, hf, hp, h => by
    cases hf
    cases hp
    have : dot f pt ≤ f.sum * M := by
      have key : ∀ (f pt : List Nat), (∀ z ∈ pt, z ≤ M) → dot f pt ≤ f.sum * M := fun f => by
        induction f with
        | nil => intro pt _; simp [dot]
        | cons a f ih =>
          intro pt hp
          cases pt with
          | nil => simp [dot]
          | cons b pt =>
            have h1 := ih pt fun z hz => hp z (List.mem_cons_of_mem _ hz)
            have h2 : a * b ≤ a * M := Nat.mul_le_mul_left _ (hp b List.mem_cons_self)
            rw [dot, List.sum_cons, Nat.add_mul]
            omega
      refine key f pt fun z hz => ?_
      obtain ⟨i, hi⟩ := List.getElem?_of_mem hz
      exact h (i + 1) z (by omega) hi
    rw [dot, List.sum_cons, Nat.add_mul]
    omega
  | a :: f, b :: pt, j + 1, x, y, hf, hp, h => by
    have h1 := dot_rest f pt j x y hf hp fun i z hi hz => h (i + 1) z (by omega) hz
    have h2 : a * b ≤ a * M := Nat.mul_le_mul_left _ (h 0 b (by omega) rfl)
    rw [dot, List.sum_cons, Nat.add_mul]
    omega
  | [], _, _, _, _, hf, _, _ => by simp at hf
  | _ :: _, [], _, _, _, _, hp, _ => by simp at hp
theorem head0 {f : F} {m : Nat} (hl : f.length = m + 1) (h : f.headD 0 = 0) : f = 0 :: f.tail := by
  cases f with
  | nil => simp at hl
  | cons a f =>
    have : a = 0 := h
    rw [this]
    rfl
theorem rich_of {m : Nat} {Sp : List Nat → Prop} (h0 : ∀ N, ∃ pt, Sp pt ∧ Far m N pt) (h : ∀ N, ∃ M, ∀ j K, j < m → ∃ pt, Sp pt ∧ Far m N pt ∧ (∀ i z, i ≠ j → pt[i]? = some z → z ≤ M) ∧ ∃ y, pt[j]? = some y ∧ K ≤ y) : Rich m Sp := by
  refine ⟨h0, fun N f g lf lg hf hg ne => ?_⟩
  have ef := head0 lf hf
  have eg := head0 lg hg
  have tne : f.tail ≠ g.tail := fun z => ne (by rw [ef, eg, z])
  have lt1 : f.tail.length = m := by rw [List.length_tail, lf]; rfl
  have lt2 : g.tail.length = m := by rw [List.length_tail, lg]; rfl
  have hv : ∀ (f : F) (pt : List Nat), f.headD 0 = 0 → valF f pt = dot f.tail pt := fun f pt z => by unfold valF; rw [z, Nat.zero_add]
  obtain ⟨j, hj⟩ : ∃ j, f.tail[j]? ≠ g.tail[j]? := Classical.byContradiction fun z => tne (List.ext_getElem? fun i => Classical.byContradiction fun y => z ⟨i, y⟩)
  have jm : j < m := Classical.byContradiction fun z => hj (by rw [List.getElem?_eq_none (by omega), List.getElem?_eq_none (by omega)])
  obtain ⟨x1, e1⟩ : ∃ x, f.tail[j]? = some x := ⟨_, List.getElem?_eq_getElem (by omega)⟩
  obtain ⟨x2, e2⟩ : ∃ x, g.tail[j]? = some x := ⟨_, List.getElem?_eq_getElem (by omega)⟩
  have xne : x1 ≠ x2 := fun z => hj (by rw [e1, e2, z])
  obtain ⟨M, hM⟩ := h N
  obtain ⟨pt, sp, far, small, y, hy, ky⟩ := hM j (f.tail.sum * M + g.tail.sum * M + N) jm
  refine ⟨pt, sp, far, ?_⟩
  rw [hv f pt hf, hv g pt hg]
  have a1 := dot_split f.tail pt j x1 y e1 hy
  have a2 := dot_split g.tail pt j x2 y e2 hy
  have b1 := dot_rest f.tail pt j x1 y e1 hy small
  have b2 := dot_rest g.tail pt j x2 y e2 hy small
  rcases Nat.lt_or_gt_of_ne xne with z | z
  · refine .inl ?_
    have : (x1 + 1) * y ≤ x2 * y := Nat.mul_le_mul_right _ z
    rw [Nat.add_mul, Nat.one_mul] at this
    omega
  · refine .inr ?_
    have : (x2 + 1) * y ≤ x1 * y := Nat.mul_le_mul_right _ z
    rw [Nat.add_mul, Nat.one_mul] at this
    omega
/-- all points -/
def AllPt (m : Nat) (pt : List Nat) : Prop := pt.length = m
theorem rich_all (m : Nat) : Rich m (AllPt m) := by
  refine rich_of (fun N => ⟨List.replicate m N, by simp [AllPt], by simp [Far]⟩) fun N => ⟨N, fun j K hj => ⟨(List.replicate m N).set j (N + K), by simp [AllPt], ⟨by simp, fun x hx => ?_⟩, fun i z hi hz => ?_, N + K, ?_, by omega⟩⟩
  · rcases List.mem_or_eq_of_mem_set hx with w | w
    · rw [List.eq_of_mem_replicate w]; exact Nat.le_refl _
    · rw [w]; omega
  · rw [List.getElem?_set_ne (Ne.symm hi)] at hz
    have := List.mem_of_getElem? hz
    rw [List.eq_of_mem_replicate this]
    exact Nat.le_refl _
  · rw [List.getElem?_set_self (by simpa using hj)]
/-- lists that write the same words have one normal list -/
theorem norm_same {m : Nat} {a b : List Pn} (ha : LenF m a) (hb : LenF m b) (h : ∀ pt, pt.length = m → wr pt a = wr pt b) : normL a = normL b :=
  uni (rich_all m) (nm_normL ha) (nm_normL hb) fun pt sp => by rw [wr_normL ha, wr_normL hb]; exact h pt sp
end NM

set_option Elab.async false
set_option linter.all false
set_option maxRecDepth 100000
set_option maxHeartbeats 4000000
namespace K59
open PySem PySem.Spec PyProof.Rows L2 CK SX NM
/-! ### open texts -/
/-- the attributes, as they are set -/
def OF (l : Addr) (m : Nat) : List (Str × V) := putF "_many" (V.int (m : Nat)) (putF "_pieces" (V.ref l) [])
theorem ne_pm : ¬ (("_pieces" : Str) = "_many") := by decide +kernel
theorem of_p (l : Addr) (m : Nat) : (OF l m).lookup ("_pieces" : Str) = some (V.ref l) := by
  unfold OF
  rw [lookup_putF, if_neg ne_pm, lookup_putF, if_pos rfl]
theorem of_m (l : Addr) (m : Nat) : (OF l m).lookup ("_many" : Str) = some (V.int (m : Nat)) := by
  unfold OF
  rw [lookup_putF, if_pos rfl]
theorem of_no (l : Addr) (m : Nat) {x : Str} (h1 : ¬ x = "_pieces") (h2 : ¬ x = "_many") : (OF l m).lookup x = none := by
  unfold OF
  rw [lookup_putF, if_neg h2, lookup_putF, if_neg h1]
  rfl
/-- an open text at p, its list of pieces at l -/
structure OTl (C : Addr) (H : Hp) (p l : Addr) (m : Nat) (ps : List Pn) : Prop where
  at_ : ∃ dx, H p = some (.ins C dx (OF l m))
  gl : GL H m l ps
def OT (C : Addr) (H : Hp) (p : Addr) (m : Nat) (ps : List Pn) : Prop := ∃ l, OTl C H p l m ps
theorem OTl.same {C : Addr} {H H' : Hp} {p l : Addr} {m : Nat} {ps : List Pn} (h : OTl C H p l m ps) (s : Same H H') : OTl C H' p l m ps := by
  obtain ⟨⟨dx, e⟩, g⟩ := h
  exact ⟨⟨dx, s _ _ e⟩, g.same s⟩
theorem OT.same {C : Addr} {H H' : Hp} {p : Addr} {m : Nat} {ps : List Pn} (h : OT C H p m ps) (s : Same H H') : OT C H' p m ps := by
  obtain ⟨l, h⟩ := h
  exact ⟨l, h.same s⟩
theorem GL.ins {H : Hp} {m : Nat} {l p C dx : Addr} {ps : List Pn} {fs gs : List (Str × V)} (h : GL H m l ps) (hp : H p = some (.ins C dx fs)) : GL (upd H p (.ins C dx gs)) m l ps := by
  obtain ⟨⟨vs, hl, hv⟩, a, b, c, d, e⟩ := h
  refine ⟨⟨vs, ?_, hv.mono fun a xs e => ?_⟩, a, b, c, d, e⟩
  · rw [upd_ne (fun z => by rw [z, hp] at hl; cases hl)]
    exact hl
  · rw [upd_ne (fun z => by rw [z, hp] at e; cases e)]
    exact e
/-- what is written at ones is not too long -/
def Wl (m : Nat) (ps : List Pn) : Prop := (wr (List.replicate m 1) ps).length < 2 ^ 900
theorem bf_normL {m : Nat} {ps : List Pn} (h : LenF m ps) (hw : Wl m ps) : ∀ p ∈ normL ps, Bf p.2 := fun p hp n hn => Nat.lt_of_le_of_lt (num_le h (Nat.le_refl _) hp hn) hw
theorem wl_normL {m : Nat} {ps : List Pn} (h : LenF m ps) (hw : Wl m ps) : Wl m (normL ps) := by
  unfold Wl
  rw [wr_normL h]
  exact hw
section
variable {P : Program} {w : World} {K : PySem.W.Frag} {mg : Str → Option Value} {base : Heap} {C E_InvalidText E_InvalidNumber E_TooMany E_CountError : Addr}
def sp_init (C : Addr) : Sp := fun vs H Q _ => ∃ (p dx l : Addr) (m : Nat) (ps : List Pn), vs = [.ref p, .int m, .ref l] ∧ H p = some (.ins C dx []) ∧ m ≤ 3 ∧ GL H m l ps ∧ meas ps ≤ 2000 ∧ Wl m ps ∧
  ∀ r H', SameX p H H' → H r = none → OTl C H' p r m (normL ps) → Q .non H'
theorem n_OpenText (T : Txt K mg C E_InvalidText E_InvalidNumber E_TooMany E_CountError) : C8.Mak P w K mg base 7 "OpenText" C (sp_init C) [] := by
  refine makF T.k_OpenText T.d_OpenText___init__ sc_OpenText___init__ (fun vs H Q E h => ?_) (fun f cdv A outer s H vs Q E hr h => ?_)
  · obtain ⟨_, _, _, _, _, rfl, _⟩ := h; rfl
  · obtain ⟨p, dx, l, m, ps, rfl, hp, m3, g, hme, hw, q⟩ := h
    have cl := T.k_OpenText.ins.cl
    refine ⟨_, (pss_cons (ps_fld (pv 0) (C8.pe_c (c_normal T) hr (by decide) (by rfl) (pa_cons (pv 1) (pa_cons (pv 2) pa_nil))) rfl)
    (pss_one (ps_fld (pv 0) (pv 1) rfl))), ?_⟩
    refine ⟨_, rfl, _, rfl, m, l, ps, rfl, m3, g, hme, fun r H1 s1 n1 pl => ?_⟩
    have hp1 := s1 _ _ hp
    have hp2 : (upd H1 p (.ins C dx (putF "_pieces" (V.ref r) []))) p = some (.ins C dx (putF "_pieces" (V.ref r) [])) := upd_same
    refine ⟨_, rfl, p, C, dx, _, rfl, hp1, cl, T.f_pieces, by show 0 < 1000; decide, ?_⟩
    refine ⟨_, rfl, _, rfl, p, C, dx, _, rfl, hp2, cl, T.f_many, by show 1 < 1000; decide, ?_⟩
    rw [upd_upd]
    have nm := nm_normL g.len
    have mle := meas_normL g.len
    have sm := nm.small (B := 2000) (by omega)
    have gr : GL H1 m r (normL ps) := ⟨pl, nm.lenF, sm.2, lowP_normL g.low, bf_normL g.len hw, by have := sm.1; omega⟩
    refine q r _ (fun b o hb e => ?_) n1 ⟨⟨dx, upd_same⟩, gr.ins hp1⟩
    rw [upd_ne hb]
    exact s1 _ _ e
def sp_eq (C : Addr) : Sp := fun vs H Q _ => ∃ (a b : Addr) (m m' : Nat) (ps qs : List Pn), vs = [.ref a, .ref b] ∧ OT C H a m ps ∧ OT C H b m' qs ∧ Q (.bl (decide (m = m') && decide (ps = qs))) H
theorem m_OpenText___eq__ (T : Txt K mg C E_InvalidText E_InvalidNumber E_TooMany E_CountError) : C8.Met P w K mg base 1 C "__eq__" (sp_eq C) [] := by
  refine metF T.k_OpenText T.d_OpenText___eq__ sc_OpenText___eq__ (fun vs H Q E h => ?_) (fun f cdv A outer s H vs Q E hr h => ?_)
  · obtain ⟨_, _, _, _, _, _, rfl, _⟩ := h; rfl
  · obtain ⟨a, b, m, m', ps, qs, rfl, ⟨l, ⟨dx, ha⟩, ga⟩, ⟨l', ⟨dy, hb⟩, gb⟩, q⟩ := h
    have cl := T.k_OpenText.ins.cl
    refine ⟨_, (pss_one (ps_ret (pe_and (pe_callB (call_isCL T.k_OpenText.ins T.t_OpenText) (by rfl) T.m_isinstance (by decide +kernel) (pa_cons (pv 1) (pa_cons (C8.pe_gc (v := .ref C) (by rfl) ⟨_, T.k_OpenText.mgC, rfl⟩) pa_nil))) (pe_and (pe_cmpR op_eq (pe_fld (pv 0) rfl) (pe_fld (pv 1) rfl) (nomark _)) (pe_one (pe_cmpR (op_eqD hr.units) (pe_fld (pv 0) rfl) (pe_fld (pv 1) rfl) (nomark _))))))), ?_⟩
    refine ⟨_, rfl, .inl ⟨b, dy, _, rfl, hb, _, rfl, iteT ?_⟩⟩
    refine ⟨_, rfl, a, C, dx, _, _, rfl, ha, cl, T.f_many, of_m l m, _, rfl, b, C, dy, _, _, rfl, hb, cl, T.f_many, of_m l' m', rfl, _, rfl, ?_⟩
    by_cases e : m = m'
    · subst e
      rw [decide_eq_true (rfl : m = m), Bool.true_and] at q
      rw [decide_eq_true (rfl : V.int (m : Nat) = V.int (m : Nat))]
      refine iteT ⟨_, rfl, a, C, dx, _, _, rfl, ha, cl, T.f_pieces, of_p l m, _, rfl, b, C, dy, _, _, rfl, hb, cl, T.f_pieces, of_p l' m, .list (ps.map dP), .list (qs.map dP), dp_PL ga.at_, dp_PL gb.at_, shaped_dPs ga.low, shaped_dPs gb.low, ?_⟩
      rw [eqv_dPs]
      exact q
    · rw [decide_eq_false e, Bool.false_and] at q
      rw [decide_eq_false (fun z => e (by have := V.int.inj z; omega))]
      exact iteF q
def sp_many (C : Addr) : Sp := fun vs H Q _ => ∃ (a : Addr) (m : Nat) (ps : List Pn), vs = [.ref a] ∧ OT C H a m ps ∧ Q (.int (m : Nat)) H
theorem m_OpenText_many (T : Txt K mg C E_InvalidText E_InvalidNumber E_TooMany E_CountError) : C8.Met P w K mg base 1 C "many" (sp_many C) [] := by
  refine metF T.k_OpenText T.d_OpenText_many sc_OpenText_many (fun vs H Q E h => ?_) (fun f cdv A outer s H vs Q E hr h => ?_)
  · obtain ⟨_, _, _, rfl, _⟩ := h; rfl
  · obtain ⟨a, m, ps, rfl, ⟨l, ⟨dx, ha⟩, ga⟩, q⟩ := h
    refine ⟨_, (pss_one (ps_ret (pe_fld (pv 0) rfl))), ?_⟩
    exact ⟨_, rfl, a, C, dx, _, _, rfl, ha, T.k_OpenText.ins.cl, T.f_many, of_m l m, q⟩
def sp_pieces (C : Addr) : Sp := fun vs H Q _ => ∃ (a : Addr) (m : Nat) (ps : List Pn), vs = [.ref a] ∧ OT C H a m ps ∧ ∀ L H', Same H H' → H L = none → GL H' m L ps → Q (.ref L) H'
theorem m_OpenText_pieces (T : Txt K mg C E_InvalidText E_InvalidNumber E_TooMany E_CountError) : C8.Met P w K mg base 1 C "pieces" (sp_pieces C) [] := by
  refine metF T.k_OpenText T.d_OpenText_pieces sc_OpenText_pieces (fun vs H Q E h => ?_) (fun f cdv A outer s H vs Q E hr h => ?_)
  · obtain ⟨_, _, _, rfl, _⟩ := h; rfl
  · obtain ⟨a, m, ps, rfl, ⟨l, ⟨dx, ha⟩, ga⟩, q⟩ := h
    obtain ⟨us, hus, pus⟩ := id ga.at_
    refine ⟨_, (pss_one (ps_ret (pe_callTy call_list_of (by rfl) T.m_list (by decide +kernel) (pa_cons (pe_fld (pv 0) rfl) pa_nil)))), ?_⟩
    refine ⟨_, rfl, a, C, dx, _, _, rfl, ha, T.k_OpenText.ins.cl, T.f_pieces, of_p l m, l, us, rfl, .inl (.inl (.inl hus)), fun L nL => q L _ (sameNew nL) nL ?_⟩
    exact ⟨⟨us, upd_same, pus.same (sameNew nL)⟩, ga.len, ga.ws, ga.low, ga.bf, ga.few⟩
end
end K59

set_option linter.all false
set_option maxRecDepth 100000
namespace NM
open WM
/-! ### what keeps two texts apart -/
theorem norm_iff {m : Nat} {a b : List Pn} (ha : LenF m a) (hb : LenF m b) : normL a = normL b ↔ ∀ pt, pt.length = m → wr pt a = wr pt b := by
  refine ⟨fun e pt _ => ?_, norm_same ha hb⟩
  rw [← wr_normL ha, e, wr_normL hb]
/-- two lists made of two texts: they write the same exactly where the texts do -/
theorem made_iff {m m' : Nat} {a b a' b' : List Pn} {Sp : List Nat → Prop} (hS : Rich m Sp) (ha : LenF m a) (hb : LenF m b) (ha' : LenF m' a') (hb' : LenF m' b')
    (h1 : (∀ pt, pt.length = m → wr pt a = wr pt b) → ∀ pt, pt.length = m' → wr pt a' = wr pt b') (h2 : (∀ pt, pt.length = m' → wr pt a' = wr pt b') → ∀ pt, Sp pt → wr pt a = wr pt b) : normL a' = normL b' ↔ normL a = normL b := by
  constructor
  · intro e
    refine uni hS (nm_normL ha) (nm_normL hb) fun pt sp => ?_
    rw [wr_normL ha, wr_normL hb]
    exact h2 ((norm_iff ha' hb').mp e) pt sp
  · intro e
    exact (norm_iff ha' hb').mpr (h1 ((norm_iff ha hb).mp e))
theorem lenF_app {m : Nat} {a b : List Pn} (ha : LenF m a) (hb : LenF m b) : LenF m (a ++ b) := fun p hp => (List.mem_append.mp hp).elim (ha p) (hb p)
theorem join_iff {m : Nat} {a b c : List Pn} (ha : LenF m a) (hb : LenF m b) (hc : LenF m c) : normL (a ++ c) = normL (b ++ c) ↔ normL a = normL b := by
  refine made_iff (rich_all m) ha hb (lenF_app ha hc) (lenF_app hb hc) (fun h pt hp => ?_) fun h pt hp => ?_
  · rw [wr_app, wr_app, h pt hp]
  · have := h pt hp
    rw [wr_app, wr_app] at this
    exact List.append_cancel_right this
theorem join_iff2 {m : Nat} {a b c : List Pn} (ha : LenF m a) (hb : LenF m b) (hc : LenF m c) : normL (c ++ a) = normL (c ++ b) ↔ normL a = normL b := by
  refine made_iff (rich_all m) ha hb (lenF_app hc ha) (lenF_app hc hb) (fun h pt hp => ?_) fun h pt hp => ?_
  · rw [wr_app, wr_app, h pt hp]
  · have := h pt hp
    rw [wr_app, wr_app] at this
    exact List.append_cancel_left this
def repP (t : Nat) (ps : List Pn) : List Pn := (List.replicate t ps).flatten
theorem mem_repP {ps : List Pn} : ∀ {t : Nat} {p : Pn}, p ∈ repP t ps → p ∈ ps
  | 0, _, h => by simp [repP] at h
  | t + 1, p, h => by
    unfold repP at h
    rw [List.replicate_succ, List.flatten_cons] at h
    exact (List.mem_append.mp h).elim id mem_repP
theorem wr_repP (pt : List Nat) (ps : List Pn) : ∀ t, wr pt (repP t ps) = pw (wr pt ps) t
  | 0 => rfl
  | t + 1 => by
    have := wr_repP pt ps t
    unfold repP at this ⊢
    rw [List.replicate_succ, List.flatten_cons, wr_app, this, pw_succ]
theorem pw_inj {a b : W} {t : Nat} (ht : 1 ≤ t) (h : pw a t = pw b t) : a = b := by
  obtain ⟨k, rfl⟩ : ∃ k, t = k + 1 := ⟨t - 1, by omega⟩
  have hl : a.length = b.length := by
    have := congrArg List.length h
    rw [pw_len, pw_len] at this
    exact Nat.eq_of_mul_eq_mul_right (by omega) this
  rw [pw_succ, pw_succ] at h
  exact (List.append_inj h hl).1
theorem rep_iff {m t : Nat} {a b : List Pn} (ht : 1 ≤ t) (ha : LenF m a) (hb : LenF m b) : normL (repP t a) = normL (repP t b) ↔ normL a = normL b := by
  refine made_iff (rich_all m) ha hb (fun p hp => ha p (mem_repP hp)) (fun p hp => hb p (mem_repP hp)) (fun h pt hp => ?_) fun h pt hp => ?_
  · rw [wr_repP, wr_repP, h pt hp]
  · have := h pt hp
    rw [wr_repP, wr_repP] at this
    exact pw_inj ht this
def mirP (ps : List Pn) : List Pn := ps.reverse.map fun p => (p.1.reverse, p.2)
theorem pw_rev (w : W) : ∀ k, pw w.reverse k = (pw w k).reverse
  | 0 => rfl
  | k + 1 => by
    have e : pw w (k + 1) = pw w k ++ w := by
      rw [pw_add w k 1, pw_one]
    rw [pw_succ, e, List.reverse_append, pw_rev w k]
theorem wr_mirP (pt : List Nat) : ∀ ps : List Pn, wr pt (mirP ps) = (wr pt ps).reverse
  | [] => rfl
  | p :: r => by
    have := wr_mirP pt r
    unfold mirP at this ⊢
    rw [List.reverse_cons, List.map_append, wr_app, this, wr, List.reverse_append, List.map_cons, List.map_nil, wr_one]
    congr 1
    unfold wrt
    rw [pw_rev]
theorem lenF_mir {m : Nat} {a : List Pn} (ha : LenF m a) : LenF m (mirP a) := fun p hp => by
  obtain ⟨q, hq, rfl⟩ := List.mem_map.mp hp
  exact ha q (List.mem_reverse.mp hq)
theorem mir_iff {m : Nat} {a b : List Pn} (ha : LenF m a) (hb : LenF m b) : normL (mirP a) = normL (mirP b) ↔ normL a = normL b := by
  refine made_iff (rich_all m) ha hb (lenF_mir ha) (lenF_mir hb) (fun h pt hp => ?_) fun h pt hp => ?_
  · rw [wr_mirP, wr_mirP, h pt hp]
  · have := h pt hp
    rw [wr_mirP, wr_mirP] at this
    exact List.reverse_inj.mp this
/-! ### letters replaced -/
def mapW (img : Nat → List Nat) (w : List Nat) : List Nat := (w.map img).flatten
def mapP (img : Nat → List Nat) (ps : List Pn) : List Pn := ps.map fun p => (mapW img p.1, p.2)
theorem mapW_app (img : Nat → List Nat) (a b : List Nat) : mapW img (a ++ b) = mapW img a ++ mapW img b := by
  unfold mapW
  rw [List.map_append, List.flatten_append]
theorem mapW_pw (img : Nat → List Nat) (w : List Nat) : ∀ k, mapW img (pw w k) = pw (mapW img w) k
  | 0 => rfl
  | k + 1 => by rw [pw_succ, pw_succ, mapW_app, mapW_pw img w k]
theorem wr_mapP (img : Nat → List Nat) (pt : List Nat) : ∀ ps : List Pn, wr pt (mapP img ps) = mapW img (wr pt ps)
  | [] => rfl
  | p :: r => by
    have := wr_mapP img pt r
    unfold mapP at this ⊢
    rw [List.map_cons, wr, wr, this, mapW_app]
    congr 1
    unfold wrt
    rw [mapW_pw]
theorem lenF_map {m : Nat} {a : List Pn} {img : Nat → List Nat} (ha : LenF m a) : LenF m (mapP img a) := fun p hp => by
  obtain ⟨q, hq, rfl⟩ := List.mem_map.mp hp
  exact ha q hq
/-- no word begins another one -/
structure Code (Lt : Nat → Prop) (img : Nat → List Nat) : Prop where
  ne : ∀ c, Lt c → img c ≠ []
  pre : ∀ c d, Lt c → Lt d → img c <+: img d → c = d
theorem Code.inj {Lt : Nat → Prop} {img : Nat → List Nat} (h : Code Lt img) : ∀ {a b : List Nat}, (∀ c ∈ a, Lt c) → (∀ c ∈ b, Lt c) → mapW img a = mapW img b → a = b
  | [], [], _, _, _ => rfl
  | [], d :: b, _, hb, e => by
    have e' : [] = img d ++ mapW img b := e
    exact absurd (List.append_eq_nil_iff.mp e'.symm).1 (h.ne d (hb d List.mem_cons_self))
  | c :: a, [], ha, _, e => by
    have e' : img c ++ mapW img a = [] := e
    exact absurd (List.append_eq_nil_iff.mp e').1 (h.ne c (ha c List.mem_cons_self))
  | c :: a, d :: b, ha, hb, e => by
    have e' : img c ++ mapW img a = img d ++ mapW img b := e
    have hc := ha c List.mem_cons_self
    have hd := hb d List.mem_cons_self
    have cd : c = d := by
      rcases List.append_eq_append_iff.mp e' with ⟨x, hx, _⟩ | ⟨x, hx, _⟩
      · exact h.pre c d hc hd ⟨x, hx.symm⟩
      · exact (h.pre d c hd hc ⟨x, hx.symm⟩).symm
    subst cd
    rw [h.inj (fun x hx => ha x (List.mem_cons_of_mem _ hx)) (fun x hx => hb x (List.mem_cons_of_mem _ hx)) (List.append_cancel_left e')]
theorem mem_pw {w : W} {c : Nat} : ∀ {k : Nat}, c ∈ pw w k → c ∈ w
  | 0, h => by simp [pw_zero] at h
  | k + 1, h => by
    rw [pw_succ] at h
    exact (List.mem_append.mp h).elim id mem_pw
theorem mem_wr {pt : List Nat} {c : Nat} : ∀ {ps : List Pn}, c ∈ wr pt ps → ∃ p ∈ ps, c ∈ p.1
  | [], h => by simp [wr] at h
  | p :: r, h => by
    rw [wr] at h
    rcases List.mem_append.mp h with z | z
    · exact ⟨p, List.mem_cons_self, mem_pw z⟩
    · obtain ⟨q, hq, hc⟩ := mem_wr z
      exact ⟨q, List.mem_cons_of_mem _ hq, hc⟩
theorem map_iff {m : Nat} {a b : List Pn} {Lt : Nat → Prop} {img : Nat → List Nat} (hc : Code Lt img) (la : ∀ p ∈ a, ∀ c ∈ p.1, Lt c) (lb : ∀ p ∈ b, ∀ c ∈ p.1, Lt c) (ha : LenF m a) (hb : LenF m b) :
    normL (mapP img (normL a)) = normL (mapP img (normL b)) ↔ normL a = normL b := by
  have na := (nm_normL ha).lenF
  have nb := (nm_normL hb).lenF
  refine made_iff (rich_all m) ha hb (lenF_map na) (lenF_map nb) (fun h pt hp => ?_) fun h pt hp => ?_
  · rw [wr_mapP, wr_mapP, wr_normL ha, wr_normL hb, h pt hp]
  · have e := h pt hp
    rw [wr_mapP, wr_mapP, wr_normL ha, wr_normL hb] at e
    refine hc.inj (fun c hm => ?_) (fun c hm => ?_) e
    · obtain ⟨p, hp, hcp⟩ := mem_wr hm
      exact la p hp c hcp
    · obtain ⟨p, hp, hcp⟩ := mem_wr hm
      exact lb p hp c hcp
/-! ### unknowns replaced -/
theorem rich_mul {m t b : Nat} {Sp : List Nat → Prop} (ht : 1 ≤ t) (h : ∀ pt : List Nat, pt.length = m → (∀ x ∈ pt, b ≤ x ∧ t ∣ x) → Sp pt) : Rich m Sp := by
  have ge : ∀ N, N + b ≤ t * (N + b) := fun N => Nat.le_mul_of_pos_left _ ht
  refine rich_of (fun N => ⟨List.replicate m (t * (N + b)), h _ (by simp) fun x hx => ?_, by simp, fun x hx => ?_⟩) fun N => ⟨t * (N + b), fun j K hj => ⟨(List.replicate m (t * (N + b))).set j (t * (N + b + K)), h _ (by simp) fun x hx => ?_, ⟨by simp, fun x hx => ?_⟩, fun i z hi hz => ?_, t * (N + b + K), ?_, ?_⟩⟩
  · rw [List.eq_of_mem_replicate hx]
    have := ge N
    exact ⟨by omega, Nat.dvd_mul_right _ _⟩
  · rw [List.eq_of_mem_replicate hx]
    have := ge N
    omega
  · rcases List.mem_or_eq_of_mem_set hx with w | w
    · rw [List.eq_of_mem_replicate w]
      have := ge N
      exact ⟨by omega, Nat.dvd_mul_right _ _⟩
    · rw [w]
      have := ge (N + K)
      rw [Nat.add_right_comm] at this
      exact ⟨by omega, Nat.dvd_mul_right _ _⟩
  · have g1 := ge N
    have g2 := ge (N + K)
    rw [Nat.add_right_comm] at g2
    rcases List.mem_or_eq_of_mem_set hx with w | w
    · rw [List.eq_of_mem_replicate w]; omega
    · rw [w]; omega
  · rw [List.getElem?_set_ne (Ne.symm hi)] at hz
    have := List.mem_of_getElem? hz
    rw [List.eq_of_mem_replicate this]
    exact Nat.le_refl _
  · rw [List.getElem?_set_self (by simpa using hj)]
  · have g2 := ge (N + K)
    rw [Nat.add_right_comm] at g2
    omega
end NM

set_option Elab.async false
set_option linter.all false
set_option maxRecDepth 100000
set_option maxHeartbeats 2000000
namespace K59
open PySem PySem.Spec PyProof.Rows L2 CK SX NM
/-! ### lists of pieces and of forms in the heap -/
theorem mk_text {C : Addr} {Hc : Hp} {x dx l : Addr} {m : Nat} {ps : List Pn} {R : V → Hp → Prop} {E : XK} (nx : Hc x = none) (ndx : Hc dx = none) (nex : dx ≠ x) (gl : GL Hc m l ps) (m3 : m ≤ 3) (hme : meas ps ≤ 2000) (hw : Wl m ps)
    (q : ∀ r H', Same Hc H' → Hc r = none → OTl C H' x r m (normL ps) → R .non H') : sp_init C [.ref x, .int (m : Nat), .ref l] (upd (upd Hc dx (.own x)) x (.ins C dx [])) R E := by
  have s0 : Same Hc (upd (upd Hc dx (.own x)) x (.ins C dx [])) := fun b o e => by
    rw [upd_ne (ne_of_none e nx), upd_ne (ne_of_none e ndx)]
    exact e
  refine ⟨x, dx, l, m, ps, rfl, upd_same, m3, gl.same s0, hme, hw, fun r H1 s1 n1 ot => q r H1 (fun b o e => ?_) (s0.free n1) ot⟩
  exact s1 _ _ (fun z => by rw [z, nx] at e; cases e) (s0 _ _ e)
theorem OF_no (l : Addr) (m : Nat) : ((OF l m).lookup ("pieces" : Str) = none) ∧ ((OF l m).lookup ("many" : Str) = none) :=
  ⟨of_no l m (by decide +kernel) (by decide +kernel), of_no l m (by decide +kernel) (by decide +kernel)⟩
theorem GL.dpP {K : PySem.W.Frag} {H : Hp} {m : Nat} {l : Addr} {ps : List Pn} (h : GL H m l ps) : Dp K H (.ref l) (.list (ps.map dP)) := dp_PL h.at_
theorem Pcs.rev {H : Hp} {vs : List V} {ps : List Pn} (h : Pcs H vs ps) : Pcs H vs.reverse ps.reverse := by
  induction h with
  | nil => exact .nil
  | cons e _ ih =>
    rw [List.reverse_cons, List.reverse_cons]
    exact ih.app (.one e)
theorem Pcs.rep {H : Hp} {vs : List V} {ps : List Pn} (h : Pcs H vs ps) : ∀ t, Pcs H (List.replicate t vs).flatten (List.replicate t ps).flatten
  | 0 => .nil
  | t + 1 => by
    rw [List.replicate_succ, List.replicate_succ, List.flatten_cons, List.flatten_cons]
    exact h.app (h.rep t)
theorem rep_mem {α : Type} {ps : List α} : ∀ {t : Nat} {p : α}, p ∈ (List.replicate t ps).flatten → p ∈ ps
  | 0, _, h => by simp at h
  | t + 1, p, h => by
    rw [List.replicate_succ, List.flatten_cons] at h
    exact (List.mem_append.mp h).elim id rep_mem
theorem len_repP (t : Nat) (ps : List Pn) : (repP t ps).length = t * ps.length := by simp [repP]
theorem meas_repP (ps : List Pn) : ∀ t, meas (repP t ps) = meas ps * t
  | 0 => rfl
  | t + 1 => by
    have := meas_repP ps t
    unfold repP at this ⊢
    rw [List.replicate_succ, List.flatten_cons, meas_app, this, Nat.mul_succ, Nat.add_comm]
theorem meas_mirP (ps : List Pn) : meas (mirP ps) = meas ps := by
  unfold mirP meas
  rw [List.map_map, ← List.sum_reverse (ps.map measP), ← List.map_reverse]
  congr 1
  refine List.map_congr_left fun p _ => ?_
  show measP (p.1.reverse, p.2) = measP p
  unfold measP
  rw [List.length_reverse]
/-- forms in the heap -/
inductive Fs (H : Hp) : List V → List F → Prop
  | nil : Fs H [] []
  | cons {a : Addr} {vs : List V} {f : F} {fs : List F} : FT H a f → Fs H vs fs → Fs H (.ref a :: vs) (f :: fs)
theorem Fs.mono {H H' : Hp} {vs : List V} {fs : List F} (h : Fs H vs fs) (s : ∀ a xs, H a = some (.tup xs) → H' a = some (.tup xs)) : Fs H' vs fs := by
  induction h with
  | nil => exact .nil
  | cons e _ ih => exact .cons (s _ _ e) ih
theorem Fs.same {H H' : Hp} {vs : List V} {fs : List F} (h : Fs H vs fs) (s : Same H H') : Fs H' vs fs := h.mono (tup_same s)
theorem Fs.len {H : Hp} {vs : List V} {fs : List F} (h : Fs H vs fs) : vs.length = fs.length := by
  induction h with
  | nil => rfl
  | cons _ _ ih => simp [ih]
theorem Fs.get {H : Hp} {vs : List V} {fs : List F} (h : Fs H vs fs) {i : Nat} {v : V} (hi : vs[i]? = some v) : ∃ a f, v = .ref a ∧ fs[i]? = some f ∧ FT H a f := by
  induction h generalizing i with
  | nil => simp at hi
  | cons e _ ih =>
    cases i with
    | zero =>
      cases hi
      exact ⟨_, _, rfl, rfl, e⟩
    | succ i => exact ih hi
theorem Fs.app {H : Hp} {vs us : List V} {fs gs : List F} (h : Fs H vs fs) (g : Fs H us gs) : Fs H (vs ++ us) (fs ++ gs) := by
  induction h with
  | nil => exact g
  | cons e _ ih => exact .cons e ih
theorem Fs.set {H : Hp} {vs : List V} {fs : List F} (h : Fs H vs fs) {i : Nat} {a : Addr} {f : F} (e : FT H a f) : Fs H (vs.set i (.ref a)) (fs.set i f) := by
  induction h generalizing i with
  | nil => exact .nil
  | cons e' h ih =>
    cases i with
    | zero => exact .cons e h
    | succ i => exact .cons e' ih
def FL (H : Hp) (l : Addr) (fs : List F) : Prop := ∃ vs, H l = some (.lst vs) ∧ Fs H vs fs
theorem FL.same {H H' : Hp} {l : Addr} {fs : List F} (h : FL H l fs) (s : Same H H') : FL H' l fs := by
  obtain ⟨vs, e, p⟩ := h
  exact ⟨vs, s _ _ e, p.same s⟩
/-! ### forms put into a form -/
def insF (m : Nat) (f : F) (gs : List F) : F := (f.tail.zip gs).foldl (fun acc p => addF acc (timesF p.1 p.2)) (f.headD 0 :: List.replicate m 0)
theorem len_timesF (k : Nat) (f : F) : (timesF k f).length = f.length := by simp [timesF]
theorem len_ins {m : Nat} : ∀ (zs : List (Nat × F)) (acc : F), acc.length = m + 1 → (∀ z ∈ zs, z.2.length = m + 1) → (zs.foldl (fun acc p => addF acc (timesF p.1 p.2)) acc).length = m + 1
  | [], acc, h, _ => h
  | z :: zs, acc, h, hz => by
    have hz0 := hz z List.mem_cons_self
    refine len_ins zs _ ?_ fun y hy => hz y (List.mem_cons_of_mem _ hy)
    have e : acc.length = (timesF z.1 z.2).length := by rw [len_timesF, h, hz0]
    rw [len_add e, len_timesF, hz0]
theorem val_ins {m : Nat} (pt : List Nat) : ∀ (zs : List (Nat × F)) (acc : F), acc.length = m + 1 → (∀ z ∈ zs, z.2.length = m + 1) →
    valF (zs.foldl (fun acc p => addF acc (timesF p.1 p.2)) acc) pt = valF acc pt + (zs.map fun z => z.1 * valF z.2 pt).sum
  | [], acc, _, _ => by simp
  | z :: zs, acc, h, hz => by
    have hz0 := hz z List.mem_cons_self
    have e : acc.length = (timesF z.1 z.2).length := by rw [len_timesF, h, hz0]
    rw [List.foldl_cons, val_ins pt zs _ (by rw [len_add e, len_timesF, hz0]) fun y hy => hz y (List.mem_cons_of_mem _ hy), val_add pt e, val_times, List.map_cons, List.sum_cons]
    omega
theorem dot_zip (pt : List Nat) : ∀ (f : List Nat) (gs : List F), dot f (gs.map fun g => valF g pt) = ((f.zip gs).map fun z => z.1 * valF z.2 pt).sum
  | [], _ => by simp [dot]
  | _ :: _, [] => by simp [dot]
  | a :: f, g :: gs => by
    rw [List.map_cons, dot, dot_zip pt f gs, List.zip_cons_cons, List.map_cons, List.sum_cons]
theorem zip_mem {m : Nat} {f : List Nat} {gs : List F} (h : ∀ g ∈ gs, g.length = m + 1) : ∀ z ∈ f.zip gs, z.2.length = m + 1 := fun z hz => h _ (List.of_mem_zip hz).2
/-- at a point: the form at the values of the forms -/
theorem val_insF {m : Nat} {f : F} {gs : List F} (h : ∀ g ∈ gs, g.length = m + 1) (pt : List Nat) : valF (insF m f gs) pt = valF f (gs.map fun g => valF g pt) := by
  unfold insF
  rw [val_ins pt _ _ (by simp) (zip_mem h)]
  have e : valF (f.headD 0 :: List.replicate m 0) pt = f.headD 0 := by
    unfold valF
    show f.headD 0 + dot (List.replicate m 0) pt = _
    rw [dot_zero, Nat.add_zero]
  rw [e, ← dot_zip]
  rfl
theorem len_insF {m : Nat} {f : F} {gs : List F} (h : ∀ g ∈ gs, g.length = m + 1) : (insF m f gs).length = m + 1 := len_ins _ _ (by simp) (zip_mem h)
def repl (m : Nat) (gs : List F) (ps : List Pn) : List Pn := ps.map fun p => (p.1, insF m p.2 gs)
theorem wr_repl {m : Nat} {gs : List F} (h : ∀ g ∈ gs, g.length = m + 1) (pt : List Nat) : ∀ ps : List Pn, wr pt (repl m gs ps) = wr (gs.map fun g => valF g pt) ps
  | [] => rfl
  | p :: r => by
    have := wr_repl h pt r
    unfold repl at this ⊢
    rw [List.map_cons, wr, wr, this]
    congr 1
    unfold wrt
    rw [val_insF h]
end K59

set_option Elab.async false
set_option linter.all false
set_option maxRecDepth 100000
set_option maxHeartbeats 4000000
namespace K59
open PySem PySem.Spec PyProof.Rows L2 CK SX NM
theorem ws_mega {qs : List Pn} (h : Ws 2000 qs) : Ws 1000000 qs := fun p hp => by have := h p hp; omega
theorem GL.app {H : Hp} {m : Nat} {l l' L : Addr} {ps qs : List Pn} {us vs : List V} (g : GL H m l ps) (g' : GL H m l' qs) (hp : Pcs H us ps) (hq : Pcs H vs qs) (e : H L = some (.lst (us ++ vs))) (few : ps.length + qs.length ≤ 5000) : GL H m L (ps ++ qs) := by
  refine ⟨⟨_, e, hp.app hq⟩, fun p h => ?_, fun p h => ?_, fun p h => ?_, fun p h => ?_, by rw [List.length_append]; exact few⟩
  · exact (List.mem_append.mp h).elim (g.len p) (g'.len p)
  · exact (List.mem_append.mp h).elim (g.ws p) (g'.ws p)
  · exact (List.mem_append.mp h).elim (g.low p) (g'.low p)
  · exact (List.mem_append.mp h).elim (g.bf p) (g'.bf p)
section
variable {P : Program} {w : World} {K : PySem.W.Frag} {mg : Str → Option Value} {base : Heap} {C E_InvalidText E_InvalidNumber E_TooMany E_CountError : Addr}
def sp_need_text (C : Addr) : Sp := fun vs H Q _ => ∃ (a : Addr) (m : Nat) (ps : List Pn), vs = [.ref a] ∧ OT C H a m ps ∧ Q .non H

end
end K59

set_option Elab.async false
set_option linter.all false
set_option maxRecDepth 100000
set_option maxHeartbeats 4000000
namespace K59
open PySem PySem.Spec PyProof.Rows L2 CK SX NM
theorem mem_mirP {ps : List Pn} {p : Pn} (h : p ∈ mirP ps) : ∃ q ∈ ps, p = (q.1.reverse, q.2) := by
  obtain ⟨q, hq, e⟩ := List.mem_map.mp h
  exact ⟨q, List.mem_reverse.mp hq, e.symm⟩
theorem GL.mir {H : Hp} {m : Nat} {l L : Addr} {ps : List Pn} (g : GL H m l ps) {H' : Hp} (h : PL H' L (mirP ps)) : GL H' m L (mirP ps) := by
  refine ⟨h, fun p hp => ?_, fun p hp => ?_, fun p hp => ?_, fun p hp => ?_, by unfold mirP; rw [List.length_map, List.length_reverse]; exact g.few⟩
  · obtain ⟨q, hq, rfl⟩ := mem_mirP hp
    exact g.len q hq
  · obtain ⟨q, hq, rfl⟩ := mem_mirP hp
    show q.1.reverse.length ≤ 2000
    rw [List.length_reverse]
    exact g.ws q hq
  · obtain ⟨q, hq, rfl⟩ := mem_mirP hp
    exact fun c hc => g.low q hq c (List.mem_reverse.mp hc)
  · obtain ⟨q, hq, rfl⟩ := mem_mirP hp
    exact g.bf q hq
def unitF (n m : Nat) : F := 0 :: (List.replicate n 0 ++ 1 :: List.replicate (m - n - 1) 0)
theorem len_unitF {n m : Nat} (h : n < m) : (unitF n m).length = m + 1 := by
  unfold unitF
  simp
  omega
theorem dot_app : ∀ (a b pt qt : List Nat), a.length = pt.length → dot (a ++ b) (pt ++ qt) = dot a pt + dot b qt
  | [], b, [], qt, _ => by simp [dot]
  | x :: a, b, y :: pt, qt, h => by
    rw [List.cons_append, List.cons_append, dot, dot, dot_app a b pt qt (by simpa using h)]
    omega
  | [], _, _ :: _, _, h => by simp at h
  | _ :: _, _, [], _, h => by simp at h
theorem val_unit {n m y : Nat} {pt : List Nat} (c : Nat) (hp : pt.length = m) (hy : pt[n]? = some y) : valF (c :: (unitF n m).tail) pt = c + y := by
  obtain ⟨hn, e⟩ := List.getElem?_eq_some_iff.mp hy
  have sp : pt = pt.take n ++ y :: pt.drop (n + 1) := by
    conv => lhs; rw [← List.take_append_drop n pt, ← List.getElem_cons_drop hn, e]
  unfold valF unitF
  show c + dot (List.replicate n 0 ++ 1 :: List.replicate (m - n - 1) 0) pt = c + y
  conv => lhs; rw [sp]
  rw [dot_app _ _ _ _ (by rw [List.length_replicate, List.length_take]; omega), dot_zero, dot, dot_zero]
  omega
def unitsF (m : Nat) : List F := (List.range m).map fun n => unitF n m
def laterG (at_ by_ m : Nat) : List F := (unitsF m).set at_ (by_ :: (unitF at_ m).tail)
theorem len_laterG {at_ by_ m : Nat} : ∀ g ∈ laterG at_ by_ m, g.length = m + 1 := fun g hg => by
  rcases List.mem_or_eq_of_mem_set hg with z | z
  · obtain ⟨n, hn, rfl⟩ := List.mem_map.mp z
    exact len_unitF (List.mem_range.mp hn)
  · rw [z]
    by_cases h : at_ < m
    · have := len_unitF h
      rw [List.length_cons, List.length_tail, this]
      rfl
    · have e : (unitsF m).set at_ (by_ :: (unitF at_ m).tail) = unitsF m := List.set_eq_of_length_le (by simp [unitsF]; omega)
      unfold laterG at hg
      rw [e, z] at hg
      obtain ⟨n, hn, e2⟩ := List.mem_map.mp hg
      rw [← e2]
      exact len_unitF (List.mem_range.mp hn)
/-- what the forms of `later` are at a point -/
theorem val_laterG {at_ by_ m : Nat} {pt : List Nat} (hp : pt.length = m) (ha : at_ < m) : (laterG at_ by_ m).map (fun g => valF g pt) = pt.set at_ (pt.getD at_ 0 + by_) := by
  refine List.ext_getElem? fun i => ?_
  unfold laterG unitsF
  by_cases hi : i < m
  · have hy : pt[i]? = some pt[i] := List.getElem?_eq_getElem (by omega)
    rw [List.getElem?_map]
    by_cases e : at_ = i
    · subst e
      rw [List.getElem?_set_self (by simp; omega), List.getElem?_set_self (by omega)]
      show some (valF (by_ :: (unitF at_ m).tail) pt) = _
      rw [val_unit by_ hp hy, List.getD_eq_getElem?_getD, hy]
      show some (by_ + pt[at_]) = some (pt[at_] + by_)
      rw [Nat.add_comm]
    · rw [List.getElem?_set_ne e, List.getElem?_set_ne e, List.getElem?_map, List.getElem?_range hi, hy]
      show some (valF (unitF i m) pt) = _
      have : unitF i m = 0 :: (unitF i m).tail := rfl
      rw [this, val_unit 0 hp hy, Nat.zero_add]
  · rw [List.getElem?_eq_none (by simp; omega), List.getElem?_eq_none (by simp; omega)]
section
variable {P : Program} {w : World} {K : PySem.W.Frag} {mg : Str → Option Value} {base : Heap} {C E_InvalidText E_InvalidNumber E_TooMany E_CountError : Addr}
end
end K59

set_option Elab.async false
set_option linter.all false
set_option maxRecDepth 100000
set_option maxHeartbeats 4000000
namespace K59
open PySem PySem.Spec PyProof.Rows L2 CK SX NM
section
variable {P : Program} {w : World} {K : PySem.W.Frag} {mg : Str → Option Value} {base : Heap} {C E_InvalidText E_InvalidNumber E_TooMany E_CountError : Addr}
def sp_needT (K : PySem.W.Frag) (C E2 : Addr) : Sp := fun vs H Q E => ∃ v, vs = [v] ∧ ((∃ a dx fs, v = .ref a ∧ H a = some (.ins C dx fs) ∧ Q .non H) ∨ (∃ d, Dp K H v d ∧ ∀ H' x, Same H H' → H' x = some (.xd [("value", v)]) → E (.ref E2) (some x) H'))
theorem x_need_text (T : Txt K mg C E_InvalidText E_InvalidNumber E_TooMany E_CountError) : CalX P w K mg base 3 "need_text" (sp_needT K C E_InvalidText) := by
  refine calX T.d_need_text sc_need_text (fun vs H Q E h => ?_) (fun f cdv A outer s H vs Q E hr h => ?_)
  · obtain ⟨_, rfl, _⟩ := h; rfl
  · obtain ⟨v, rfl, h⟩ := h
    refine ⟨_, (pss_one (ps_if (pt_not (pt_val (pe_callB (call_isCD T.k_OpenText.ins T.t_OpenText) (by rfl) T.m_isinstance (by decide +kernel) (pa_cons (pv 0) (pa_cons (C8.pe_gc (v := .ref C) (by rfl) ⟨_, T.k_OpenText.mgC, rfl⟩) pa_nil)))))
    (pss_one (ps_raiseE T.x_InvalidText rfl (takes_of rfl rfl rfl rfl) hr (by decide) (by rfl) (pv 0)))
    pss_nil)), ?_⟩
    rcases h with ⟨a, dx, fs, rfl, ha, q⟩ | ⟨d, dv, q⟩
    · exact ⟨_, rfl, .inl ⟨a, dx, fs, rfl, ha, _, rfl, iteF q⟩⟩
    · exact ⟨_, rfl, .inr ⟨v, d, rfl, dv, _, rfl, iteT ⟨_, rfl, fun x hx => q _ x (sameNew hx) upd_same⟩⟩⟩
theorem c_need_text (T : Txt K mg C E_InvalidText E_InvalidNumber E_TooMany E_CountError) : C8.Cal P w K mg base 3 "need_text" (sp_need_text C) [] := by
  obtain ⟨f, fd, ps, ds, F, m, kp, b, n⟩ := (x_need_text T).cal (P := P) (w := w) (base := base)
  refine ⟨f, fd, ps, ds, F.imp fun vs H Q E h => ?_, m, kp, b, n⟩
  obtain ⟨a, m, ps, rfl, ⟨l, ⟨dx, ha⟩, ga⟩, q⟩ := h
  exact ⟨_, rfl, .inl ⟨a, dx, _, rfl, ha, q⟩⟩

end
end K59

set_option Elab.async false
set_option linter.all false
set_option maxRecDepth 100000
set_option maxHeartbeats 4000000
namespace K59
open PySem PySem.Spec PyProof.Rows L2 CK SX NM
def LP (H : Hp) (a : Addr) (pt : List Nat) : Prop := H a = some (.lst (natsV pt))
def vMulN : V → V → V
  | .int i, .int j => .int (i * j)
  | _, _ => .non
theorem zip_mulN : ∀ (f pt : List Nat), List.zipWith vMulN (natsV f) (natsV pt) = (List.zipWith (fun x y : Nat => ((x * y : Nat) : Int)) f pt).map V.int
  | [], _ => by simp [natsV]
  | _ :: _, [] => by simp [natsV]
  | x :: xs, y :: ys => by
    show V.int ((x : Int) * (y : Int)) :: List.zipWith vMulN (natsV xs) (natsV ys) = V.int ((x * y : Nat) : Int) :: _
    rw [zip_mulN xs ys, Int.natCast_mul]
theorem sum_zipN : ∀ (f pt : List Nat), (List.zipWith (fun x y : Nat => ((x * y : Nat) : Int)) f pt).sum = ((dot f pt : Nat) : Int)
  | [], _ => by simp [dot]
  | _ :: _, [] => by simp [dot]
  | x :: xs, y :: ys => by
    rw [List.zipWith_cons_cons, List.sum_cons, sum_zipN xs ys, dot, Int.natCast_add]
theorem joinL_nil : ∀ xs : List (List Nat), TL.joinL [] xs = xs.flatten
  | [] => rfl
  | [x] => by
    show x = _
    simp
  | x :: y :: r => by
    show x ++ ([] ++ TL.joinL [] (y :: r)) = _
    rw [joinL_nil (y :: r), List.nil_append]
    rfl
theorem len_empty : (Str.ofString "").length = 0 := by decide +kernel
theorem empty_S : (Str.ofString "" : Str) = S [] := by decide +kernel
theorem join_flat (xs : List (List Nat)) : Txt.join (Str.ofString "") (xs.map S) = S xs.flatten := by
  rw [empty_S, join_S [] xs, joinL_nil]
theorem len_flatS : ∀ xs : List (List Nat), ((xs.map S).map fun x => x.length).sum = xs.flatten.length
  | [] => rfl
  | x :: r => by
    rw [List.map_cons, List.map_cons, List.sum_cons, len_flatS r, S_len, List.flatten_cons, List.length_append]
/-- where a word stands first in itself doubled -/
theorem at_occ {z : List Nat} (h : z ≠ []) (i : Nat) : StrLaws.At (S ((z ++ z).drop 1)) (S z) (S ((z ++ z).drop 1)).length i ↔ i + 1 ≤ z.length ∧ Occ z i := by
  have n0 := List.length_pos_iff.mpr h
  unfold StrLaws.At
  rw [StrLaws.subAt_eq, S_len, S_len]
  show (i + z.length ≤ ((z ++ z).drop 1).length ∧ ((((z ++ z).drop 1).drop i).take z.length == z) = true) ↔ _
  rw [List.length_drop, List.length_append, List.drop_drop, beq_iff_eq]
  unfold Occ
  rw [Nat.add_comm 1 i]
  constructor
  · rintro ⟨a, b⟩
    exact ⟨by omega, b⟩
  · rintro ⟨a, b⟩
    exact ⟨by omega, b⟩
theorem find_prim {z : List Nat} (h : z ≠ []) : (Txt.find (S ((z ++ z).drop 1)) (S z) = (z.length : Int) - 1) ↔ WM.Prim z := by
  have n0 := List.length_pos_iff.mpr h
  have last := (at_occ h (z.length - 1)).mpr ⟨by omega, occ_last h⟩
  rcases PyProof.Rows.find_whole (S ((z ++ z).drop 1)) (S z) with ⟨_, no⟩ | ⟨i, e, hi, lo⟩
  · exact absurd last (no _)
  · have o := (at_occ h i).mp hi
    rw [e]
    constructor
    · intro ei
      refine Classical.byContradiction fun np => ?_
      obtain ⟨k, hk, ok⟩ := not_prim_occ h np
      exact lo k (by omega) ((at_occ h k).mpr ⟨by omega, ok⟩)
    · intro pr
      refine Classical.byContradiction fun ne => ?_
      exact occ_not_prim h (by omega) o.2 pr
section
variable {P : Program} {w : World} {K : PySem.W.Frag} {mg : Str → Option Value} {base : Heap} {C E_InvalidText E_InvalidNumber E_TooMany E_CountError : Addr}
def sp_value : Sp := fun vs H Q _ => ∃ (fa pa : Addr) (f : F) (pt : List Nat) (m : Nat), vs = [.ref fa, .ref pa] ∧ FT H fa f ∧ LP H pa pt ∧ f.length = m + 1 ∧ pt.length = m ∧ m ≤ 3 ∧ Bf f ∧ Bf pt ∧ ∀ H', Same H H' → Q (.int (valF f pt : Nat)) H'

def sp_primitive : Sp := fun vs H Q _ => ∃ z : List Nat, vs = [.str (S z)] ∧ z.length ≤ 400000 ∧ ∀ b : Bool, (b = true ↔ WM.Prim z) → Q (.bl b) H

end
end K59

set_option Elab.async false
set_option linter.all false
set_option maxRecDepth 100000
set_option maxHeartbeats 4000000
namespace K59
open PySem PySem.Spec PyProof.Rows L2 CK SX NM
/-! ### the form of a text's length -/
def lenP (m : Nat) (ps : List Pn) : F := ps.foldl (fun acc p => addF acc (timesF p.1.length p.2)) (0 :: List.replicate m 0)
theorem len_lenQ {m : Nat} : ∀ (ps : List Pn) (acc : F), acc.length = m + 1 → LenF m ps → (ps.foldl (fun acc p => addF acc (timesF p.1.length p.2)) acc).length = m + 1
  | [], acc, h, _ => h
  | p :: r, acc, h, l => by
    have l0 := l p List.mem_cons_self
    have e : acc.length = (timesF p.1.length p.2).length := by rw [len_timesF, h, l0]
    exact len_lenQ r _ (by rw [len_add e, len_timesF, l0]) fun q hq => l q (List.mem_cons_of_mem _ hq)
theorem len_lenP {m : Nat} {ps : List Pn} (l : LenF m ps) : (lenP m ps).length = m + 1 := len_lenQ ps _ (by simp) l
theorem val_lenQ {m : Nat} (pt : List Nat) : ∀ (ps : List Pn) (acc : F), acc.length = m + 1 → LenF m ps → valF (ps.foldl (fun acc p => addF acc (timesF p.1.length p.2)) acc) pt = valF acc pt + (wr pt ps).length
  | [], acc, _, _ => by simp [wr]
  | p :: r, acc, h, l => by
    have l0 := l p List.mem_cons_self
    have e : acc.length = (timesF p.1.length p.2).length := by rw [len_timesF, h, l0]
    have e2 : (wrt pt p).length = p.1.length * valF p.2 pt := WM.pw_len _ _
    rw [List.foldl_cons, val_lenQ pt r _ (by rw [len_add e, len_timesF, l0]) fun q hq => l q (List.mem_cons_of_mem _ hq), val_add pt e, val_times, wr, List.length_append, e2]
    omega
theorem val_lenP {m : Nat} {ps : List Pn} (l : LenF m ps) (pt : List Nat) : valF (lenP m ps) pt = (wr pt ps).length := by
  unfold lenP
  rw [val_lenQ pt ps _ (by simp) l]
  have : valF (0 :: List.replicate m 0) pt = 0 := by
    unfold valF
    show 0 + dot (List.replicate m 0) pt = 0
    rw [dot_zero]
  rw [this, Nat.zero_add]
theorem bf_lenP {m : Nat} {ps : List Pn} (l : LenF m ps) (hw : Wl m ps) : Bf (lenP m ps) := fun x hx => by
  have a := mem_val (len_lenP l) hx
  rw [val_lenP l] at a
  exact Nat.lt_of_le_of_lt a hw
/-- words and numbers of times -/
inductive Ns (H : Hp) : List V → List (List Nat × Nat) → Prop
  | nil : Ns H [] []
  | cons {a : Addr} {vs : List V} {z : List Nat} {n : Nat} {xs : List (List Nat × Nat)} : H a = some (.tup [.str (S z), .int (n : Nat)]) → Ns H vs xs → Ns H (.ref a :: vs) ((z, n) :: xs)
theorem Ns.mono {H H' : Hp} {vs : List V} {xs : List (List Nat × Nat)} (h : Ns H vs xs) (s : ∀ b ys, H b = some (.tup ys) → H' b = some (.tup ys)) : Ns H' vs xs := by
  induction h with
  | nil => exact .nil
  | cons e _ ih => exact .cons (s _ _ e) ih
theorem Ns.len {H : Hp} {vs : List V} {xs : List (List Nat × Nat)} (h : Ns H vs xs) : vs.length = xs.length := by
  induction h with
  | nil => rfl
  | cons _ _ ih => simp [ih]
theorem Ns.get {H : Hp} {vs : List V} {xs : List (List Nat × Nat)} (h : Ns H vs xs) {i : Nat} {v : V} (hi : vs[i]? = some v) : ∃ a z n, v = .ref a ∧ xs[i]? = some (z, n) ∧ H a = some (.tup [.str (S z), .int (n : Nat)]) := by
  induction h generalizing i with
  | nil => simp at hi
  | cons e _ ih =>
    cases i with
    | zero =>
      cases hi
      exact ⟨_, _, _, rfl, rfl, e⟩
    | succ i => exact ih hi
theorem Ns.app {H : Hp} {vs us : List V} {xs ys : List (List Nat × Nat)} (h : Ns H vs xs) (g : Ns H us ys) : Ns H (vs ++ us) (xs ++ ys) := by
  induction h with
  | nil => exact g
  | cons e _ ih => exact .cons e ih
section
variable {P : Program} {w : World} {K : PySem.W.Frag} {mg : Str → Option Value} {base : Heap} {C E_InvalidText E_InvalidNumber E_TooMany E_CountError : Addr}
theorem c_form_value (T : Txt K mg C E_InvalidText E_InvalidNumber E_TooMany E_CountError) : C8.Cal P w K mg base 1 "form_value" sp_value [] := by
  refine calF T.d_form_value sc_form_value (fun vs H Q E h => ?_) (fun f cdv A outer s H vs Q E hr h => ?_)
  · obtain ⟨_, _, _, _, _, rfl, _⟩ := h; rfl
  · obtain ⟨a, b, f, p, m, rfl, ha, hb, lf, lp, m3, bf, bp, q⟩ := h
    refine ⟨_, (pss_one (ps_ret (pe_op op_add (pe_ix ix_tup (pv 0) pe_int (fun _ _ => rfl)) (pe_callB (cr_sum rfl) (by rfl) T.m_sum (by decide +kernel) (pa_cons (pe_lc (own := [("number", 2), ("count", 3)]) (by rfl) sc_form_value.nd (pi_zipB (K := K) rfl (by rfl) T.m_zip (pa_cons (pe_slice sl_drop (pv 0) (po_some pe_int) po_none) (pa_cons (pv 1) pa_nil))) (blkOk_by (N := ["form", "point", "number", "count"]) (sc := C8.fnScope (topS 18)) (own := [("number", 2), ("count", 3)]) (by decide +kernel)) (fun _ _ _ _ _ => (pg_two (K := K) (i := 2) (j := 3) rfl rfl sc_form_value.nd rfl rfl (Or.inl rfl) (Or.inl rfl))) (fun _ _ _ _ _ => pts_nil) (fun _ _ _ _ _ => (pe_op op_mulW (pv 2) (pv 3)))) pa_nil))))), ?_⟩
    obtain ⟨c, r, rfl⟩ : ∃ c r, f = c :: r := by cases f with | nil => simp at lf | cons c r => exact ⟨c, r, rfl⟩
    refine ⟨_, rfl, a, _, 0, .int (c : Nat), rfl, rfl, .inl (.inl ha), atI_nat (j := 0) rfl, ?_⟩
    refine ⟨_, rfl, 1, rfl, a, _, 1, rfl, rfl, rfl, ha, fun p1 H1 s1 h1 => ?_⟩
    have hb1 : LP H1 b p := s1 _ _ hb
    have h1' : H1 p1 = some (.tup (natsV r)) := h1
    refine ⟨_, rfl, .T, .L, p1, b, natsV r, natsV p, rfl, .inl (.inl h1'), .inl (.inl hb1), ?_⟩
    refine fun D hD => lcZ_map vMulN (by rw [natsV_len, natsV_len]; simp at lf; omega) (by rw [natsV_len]; exact small5 (by simp at lf; omega)) (fun H' s => ⟨.inl (.inl (s _ _ h1')), .inl (.inl (s _ _ hb1))⟩) (fun i x y H' R hx hy s q' => ?_) hD fun H' s hL => ?_
    · obtain ⟨x', mx, _, rfl⟩ := get_nat hx
      obtain ⟨y', my, _, rfl⟩ := get_nat hy
      have b1 := bf x' (List.mem_cons_of_mem _ mx)
      have b2 := bp y' my
      exact ⟨rfl, _, rfl, _, rfl, _, _, rfl, rfl, wide_mul (a := 900) (b := 900) (by omega) (by omega) (by decide) (by decide) (by decide), q' _ (Same.refl _)⟩
    · rw [zip_mulN] at hL
      refine ⟨D, _, rfl, .inl (.inl hL), _, _, rfl, rfl, ?_⟩
      rw [sum_zipN]
      have := q H' (s1.trans s)
      unfold valF at this
      rw [Int.natCast_add] at this
      exact this
def sp_counted (C : Addr) : Sp := fun vs H Q _ => ∃ (a pa : Addr) (m : Nat) (ps : List Pn) (pt : List Nat), vs = [.ref a, .ref pa] ∧ OT C H a m ps ∧ LP H pa pt ∧ pt.length = m ∧ m ≤ 3 ∧ Bf pt ∧ ∀ D us H', Same H H' → H' D = some (.lst us) → Ns H' us (ps.map fun p => (p.1, valF p.2 pt)) → Q (.ref D) H'
theorem c_counted (T : Txt K mg C E_InvalidText E_InvalidNumber E_TooMany E_CountError) : C8.Cal P w K mg base 3 "counted" (sp_counted C) [] := by
  refine calF T.d_counted sc_counted (fun vs H Q E h => ?_) (fun f0 cdv A outer s H vs Q E hr h => ?_)
  · obtain ⟨_, _, _, _, _, rfl, _⟩ := h; rfl
  · obtain ⟨a, pa, m, ps, pt, rfl, oa, hpa, lpt, m3, bp, q⟩ := h
    obtain ⟨l, ⟨dx, ha⟩, ga⟩ := id oa
    refine ⟨_, (pss_one (ps_ret (pe_lc (own := [("word", 2), ("form", 3)]) (by rfl) sc_counted.nd (pi_list (C8.pe_mt0 (m_OpenText_pieces T) hr (by decide) (pv 0))) (blkOk_by (N := ["text", "point", "word", "form"]) (sc := C8.fnScope (topS 47)) (own := [("word", 2), ("form", 3)]) (by decide +kernel)) (fun _ _ _ _ _ => (pg_two (K := K) (i := 2) (j := 3) rfl rfl sc_counted.nd rfl rfl (Or.inl rfl) (Or.inl rfl))) (fun _ _ _ _ _ => pts_nil) (fun _ _ _ _ _ => (pe_tup (pa_cons (pv 2) (pa_cons (C8.pe_c (c_form_value T) hr (by decide) (by rfl) (pa_cons (pv 3) (pa_cons (pv 1) pa_nil))) pa_nil))))))), ?_⟩
    refine ⟨_, rfl, a, dx, _, rfl, ha, (OF_no l m).1, a, m, ps, rfl, oa, fun L1 H1 s1 n1 g1 => ?_⟩
    obtain ⟨vs, hvs, pvs⟩ := id g1.at_
    have lv := pvs.len
    have few := g1.few
    refine ⟨L1, rfl, ⟨_, .inl (.inl hvs)⟩, fun D hD => ?_⟩
    refine lc_list (K := K) (a := L1) (xs := vs) (fun i H2 => Same H1 H2 ∧ ∃ us, H2 D = some (.lst us) ∧ Ns H2 us ((ps.take i).map fun p => (p.1, valF p.2 pt))) ⟨sameNew hD, [], upd_same, .nil⟩ (fun i H2 _ p => .inl (.inl (p.1 _ _ hvs))) (fun i y H2 hi p => ?_) fun H2 p => ?_
    · obtain ⟨s2, us, hus, pus⟩ := p
      obtain ⟨b, p, rfl, hpi, pc⟩ := pvs.get hi
      have mem := List.mem_of_getElem? hpi
      obtain ⟨fa, e1, e2⟩ := pc.mono (tup_same s2)
      have lu := pus.len
      rw [List.length_map, List.length_take] at lu
      refine ⟨b, _, rfl, .inl (.inl e1), rfl, _, _, rfl, _, _, rfl, rfl, rfl, ?_⟩
      refine yes_if ⟨_, rfl, _, rfl, _, rfl, fa, pa, p.2, pt, m, rfl, e2, (s1.trans s2) _ _ hpa, g1.len p mem, lpt, m3, g1.bf p mem, bp, fun H3 s3 => ⟨by show 2 ≤ sizeLine; decide, fun t nt => ?_⟩⟩
      have st := sameNew (o := .tup [.str (S p.1), .int (valF p.2 pt : Nat)]) nt
      have sC := s3.trans st
      have hu := sC _ _ hus
      refine ⟨us, hu, by rw [sizeLine_eq]; omega, same_upd2 hD (s2.trans sC), _, upd_same, ?_⟩
      have eT : (ps.take (i + 1)).map (fun p => (p.1, valF p.2 pt)) = (ps.take i).map (fun p => (p.1, valF p.2 pt)) ++ [(p.1, valF p.2 pt)] := by
        rw [List.take_succ, hpi, List.map_append]
        rfl
      rw [eT]
      exact ((pus.mono (tup_same sC)).mono (tup_upd hu)).app (.cons (tup_upd hu _ _ upd_same) .nil)
    · obtain ⟨s2, us, hus, pus⟩ := p
      rw [lv, List.take_length] at pus
      exact q D us H2 (s1.trans s2) hus pus
end
end K59

set_option Elab.async false
set_option linter.all false
set_option maxRecDepth 100000
set_option maxHeartbeats 4000000
namespace K59W
open K59 PySem PySem.Spec PyProof.Rows L2 CK
section
variable {P : Program} {w : World} {K : PySem.W.Frag} {mg : Str → Option Value} {base : Heap} {C E_InvalidText E_InvalidNumber E_TooMany E_CountError : Addr}
def sp_whole (K : PySem.W.Frag) : Sp := fun vs H Q _ => ∃ v d, vs = [v] ∧ Dp K H v d ∧ Q (.bl (isInt d)) H
theorem c_is_whole (T : Txt K mg C E_InvalidText E_InvalidNumber E_TooMany E_CountError) : C8.Cal P w K mg base 1 "is_whole" (sp_whole K) [] := by
  refine calF T.d_is_whole sc_is_whole (fun vs H Q E h => ?_) (fun f cdv A outer s H vs Q E hr h => ?_)
  · obtain ⟨_, _, rfl, _⟩ := h; rfl
  · obtain ⟨v, d, rfl, dv, q⟩ := h
    refine ⟨_, (pss_one (ps_ret (pe_and (pe_callB call_isD (by rfl) T.m_isinstance (by decide +kernel) (pa_cons (pv 0) (pa_cons (pe_bltn (v := .ty "int") (by rfl) T.m_int (by decide +kernel) rfl) pa_nil))) (pe_one (pe_not (pe_callB call_isD (by rfl) T.m_isinstance (by decide +kernel) (pa_cons (pv 0) (pa_cons (pe_bltn (v := .ty "bool") (by rfl) T.m_bool (by decide +kernel) rfl) pa_nil)))))))), ?_⟩
    refine ⟨_, rfl, v, d, _, _, rfl, dv, kitd_int d, _, rfl, ?_⟩
    by_cases e : (isInt d || isBool d) = true
    · rw [if_pos e]
      refine ⟨_, rfl, v, d, _, _, rfl, dv, kitd_bool d, _, rfl, ?_⟩
      cases d <;> first | exact q | exact absurd e Bool.false_ne_true
    · rw [if_neg e]
      cases d <;> first | exact q | exact absurd rfl e
def isCnt : PyData → Bool
  | .int i => decide (0 ≤ i)
  | _ => false
def sp_count (K : PySem.W.Frag) : Sp := fun vs H Q _ => ∃ v d, vs = [v] ∧ Dp K H v d ∧ Q (.bl (isCnt d)) H
theorem c_is_count (T : Txt K mg C E_InvalidText E_InvalidNumber E_TooMany E_CountError) : C8.Cal P w K mg base 2 "is_count" (sp_count K) [] := by
  refine calF T.d_is_count sc_is_count (fun vs H Q E h => ?_) (fun f cdv A outer s H vs Q E hr h => ?_)
  · obtain ⟨_, _, rfl, _⟩ := h; rfl
  · obtain ⟨v, d, rfl, dv, q⟩ := h
    refine ⟨_, (pss_one (ps_ret (pe_and (C8.pe_c (c_is_whole T) hr (by decide) (by rfl) (pa_cons (pv 0) pa_nil)) (pe_one (pe_cmpR op_ge (pv 0) pe_int (nomark _)))))), ?_⟩
    refine ⟨_, rfl, v, d, rfl, dv, _, rfl, ?_⟩
    by_cases e : isInt d = true
    · obtain ⟨i, rfl⟩ := isInt_of e
      cases dv
      exact ⟨_, rfl, i, 0, rfl, rfl, q⟩
    · rw [if_neg e]
      cases d <;> first | exact q | exact absurd rfl e

end
end K59W

set_option Elab.async false
set_option linter.all false
set_option maxRecDepth 100000
set_option maxHeartbeats 4000000
namespace K59W
open K59 PySem PySem.Spec PyProof.Rows L2 CK
section
variable {P : Program} {w : World} {K : PySem.W.Frag} {mg : Str → Option Value} {base : Heap} {C E_InvalidText E_InvalidNumber E_TooMany E_CountError : Addr}
/-! ### the law's own defs -/
theorem fm0 {i j : Int} (h : 0 < j) : 0 ≤ i.fmod j := Int.fmod_nonneg_of_pos i h
theorem fm1 {i j : Int} (h : 0 < j) : i.fmod j < j := Int.fmod_lt_of_pos i h
theorem ab {i : Int} {k : Nat} (h0 : 0 ≤ i) (h : i < 2 ^ k) : i.natAbs < 2 ^ k := by
  have e : ((2 ^ k : Nat) : Int) = 2 ^ k := by simp
  omega
def sp_hash : Sp := fun vs H Q _ => ∃ s i : Int, vs = [.int s, .int i] ∧ 0 ≤ s ∧ s < 2 ^ 31 ∧ 0 ≤ i ∧ i < 2 ^ 41 ∧ ∀ r : Int, 0 ≤ r → r < 2 ^ 31 → Q (.int r) H
theorem c_law_hash (T : Txt K mg C E_InvalidText E_InvalidNumber E_TooMany E_CountError) : C8.Cal P w K mg base 1 "_law_hash" sp_hash [] := by
  refine calF T.d_law_hash sc_law_hash (fun vs H Q E h => ?_) (fun f cdv A outer s H vs Q E hr h => ?_)
  · obtain ⟨_, _, rfl, _⟩ := h; rfl
  · obtain ⟨z, i, rfl, h0, h1, h2, h3, q⟩ := h
    refine ⟨_, (pss_cons (ps_set (i := 2) sc_law_hash.nd rfl (Or.inl rfl) (pe_op op_modN (pe_callTy call_int1 (by rfl) T.m_int (by decide +kernel) (pa_cons (pe_op op_add (pe_op op_add (pe_op op_add (pe_op op_mulW (pv 0) pe_int) (pe_op op_mulW (pe_op op_mulW pe_int (pv 1)) (pv 1))) (pe_op op_mulW pe_int (pv 1))) pe_int) pa_nil)) pe_int))
    (pss_cons (ps_set (i := 2) sc_law_hash.nd rfl (Or.inl rfl) (pe_op op_modN (pe_callTy call_int1 (by rfl) T.m_int (by decide +kernel) (pa_cons (pe_op op_add (pe_op op_add (pe_op op_mulW (pv 2) (pv 2)) (pe_op op_mulW pe_int (pv 1))) pe_int) pa_nil)) pe_int))
    (pss_one (ps_ret (pe_op op_modN (pe_callTy call_int1 (by rfl) T.m_int (by decide +kernel) (pa_cons (pe_op op_mulW (pv 2) pe_int) pa_nil)) pe_int))))), ?_⟩
    have a1 : z.natAbs < 2 ^ 100 := ab h0 (by omega)
    have a2 : i.natAbs < 2 ^ 100 := ab h2 (by omega)
    have a3 : ((104729 : Int)).natAbs < 2 ^ 100 := by decide
    have a4 := wide_lt a3 a2
    refine ⟨_, rfl, z, _, rfl, rfl, wide_mul a1 (show ((1299709 : Int)).natAbs < 2 ^ 100 by decide) (by decide) (by decide) (by decide), ?_⟩
    refine ⟨_, rfl, _, i, rfl, rfl, wide_mul a3 a2 (by decide) (by decide) (by decide), _, rfl, _, i, rfl, rfl, wide_mul a4 a2 (by decide) (by decide) (by decide), _, _, rfl, rfl, ?_⟩
    refine ⟨_, rfl, _, i, rfl, rfl, wide_mul (show ((31 : Int)).natAbs < 2 ^ 100 by decide) a2 (by decide) (by decide) (by decide), _, _, rfl, rfl, _, _, rfl, rfl, .inl ⟨_, rfl, _, _, rfl, rfl, (by decide : (2147483629 : Int) ≠ 0), ?_⟩⟩
    obtain ⟨m, hm⟩ : ∃ m, (z * 1299709 + 104729 * i * i + 31 * i + 7).fmod 2147483629 = m := ⟨_, rfl⟩
    have m0 : 0 ≤ m := by rw [← hm]; exact fm0 (by decide)
    have m1 : m < 2147483629 := by rw [← hm]; exact fm1 (by decide)
    have a5 : m.natAbs < 2 ^ 100 := ab m0 (by omega)
    refine ⟨_, rfl, _, rfl, m, m, congrArg V.int hm, congrArg V.int hm, wide_mul a5 a5 (by decide) (by decide) (by decide), ?_⟩
    refine ⟨_, rfl, _, i, rfl, rfl, wide_mul (show ((48271 : Int)).natAbs < 2 ^ 100 by decide) a2 (by decide) (by decide) (by decide), _, _, rfl, rfl, _, _, rfl, rfl, .inl ⟨_, rfl, _, _, rfl, rfl, (by decide : (2147483587 : Int) ≠ 0), ?_⟩⟩
    obtain ⟨k, hk⟩ : ∃ k, (m * m + 48271 * i + 15485863).fmod 2147483587 = k := ⟨_, rfl⟩
    have k0 : 0 ≤ k := by rw [← hk]; exact fm0 (by decide)
    have k1 : k < 2147483587 := by rw [← hk]; exact fm1 (by decide)
    have a6 : k.natAbs < 2 ^ 100 := ab k0 (by omega)
    refine ⟨_, rfl, k, _, congrArg V.int hk, rfl, wide_mul a6 (show ((69621 : Int)).natAbs < 2 ^ 100 by decide) (by decide) (by decide) (by decide), .inl ⟨_, rfl, _, _, rfl, rfl, (by decide : (2147483647 : Int) ≠ 0), ?_⟩⟩
    exact q _ (fm0 (by decide)) (Int.lt_trans (fm1 (by decide)) (by decide))
def sp_random : Sp := fun vs H Q _ => ∃ (g : Addr) (b : Int) (n : Nat), vs = [.ref g, .int b] ∧ Gn (n + 1) H g ∧ 1 ≤ b ∧ b < 2 ^ 200 ∧ ∀ (r : Int) H', SameX g H H' → Gn n H' g → 0 ≤ r → r < b → Q (.int r) H'
theorem pow32 (i : Nat) : (2 : Int) ^ (32 * (i + 1)) = 2 ^ (32 * i) * 4294967296 := by
  rw [Nat.mul_add, Int.pow_add]
  rfl
theorem pow_ge1 (i : Nat) : (1 : Int) ≤ 2 ^ i := by
  have := Int.pow_pos (n := 2) (m := i) (by decide)
  omega
theorem c_law_random (T : Txt K mg C E_InvalidText E_InvalidNumber E_TooMany E_CountError) : C8.Cal P w K mg base 2 "_law_random" sp_random [] := by
  refine calF T.d_law_random sc_law_random (fun vs H Q E h => ?_) (fun f cdv A outer s H vs Q E hr h => ?_)
  · obtain ⟨_, _, _, rfl, _⟩ := h; rfl
  · obtain ⟨g, b, n, rfl, G, hb, hb2, q⟩ := h
    refine ⟨_, (pss_cons (ps_if (pt_cmpR op_gt (pe_ix ix_list (pv 0) pe_int (fun _ _ => rfl)) pe_int (nomark _))
    (pss_cons (ps_set (i := 2) sc_law_random.nd rfl (Or.inl rfl) (pe_op op_modN (pe_callTy call_int1 (by rfl) T.m_int (by decide +kernel) (pa_cons (pe_ix ix_list (pv 0) pe_int (fun _ _ => rfl)) pa_nil)) (pv 1)))
    (pss_cons (ps_asg (pe_op op_fdivW (pe_ix ix_list (pv 0) pe_int (fun _ _ => rfl)) (pv 1)) (pg_sub (pv 0) pe_int set_list))
    (pss_one (ps_ret (pv 2)))))
    pss_nil)
    (pss_cons (ps_set (i := 2) sc_law_random.nd rfl (Or.inl rfl) pe_int)
    (pss_cons (ps_for PassesOwn.never rfl (pi_range1 (by rfl) T.m_range (pa_cons (pe_op op_add pe_int (pe_op op_fdivW (pe_bits (pv 1)) pe_int)) pa_nil)) (pg_name (i := 3) sc_law_random.nd rfl (Or.inl rfl))
    (pss_cons (ps_asg (pe_op op_add (pe_ix ix_list (pv 0) pe_int (fun _ _ => rfl)) pe_int) (pg_sub (pv 0) pe_int set_list))
    (pss_one (ps_set (i := 2) sc_law_random.nd rfl (Or.inl rfl) (pe_op op_add (pe_op op_mulW (pv 2) pe_int) (C8.pe_c (c_law_hash T) hr (by decide) (by rfl) (pa_cons (pe_ix ix_list (pv 0) pe_int (fun _ _ => rfl)) (pa_cons (pe_ix ix_list (pv 0) pe_int (fun _ _ => rfl)) pa_nil))))))))
    (pss_one (ps_ret (pe_op op_modN (pe_callTy call_int1 (by rfl) T.m_int (by decide +kernel) (pa_cons (pv 2) pa_nil)) (pv 1))))))), ?_⟩
    obtain ⟨x, y, c, hg, x0, y0, y1, c0, c1⟩ := G
    refine ⟨_, rfl, g, _, 0, .int x, rfl, rfl, .inl (.inl hg), atI_nat (j := 0) rfl, x, 0, rfl, rfl, _, rfl, ite2 (fun e => ?_) (fun e => ?_)⟩
    · -- a digit
      refine ⟨_, rfl, g, _, 0, .int x, rfl, rfl, .inl (.inl hg), atI_nat (j := 0) rfl, .inl ⟨x, rfl, _, rfl, x, b, rfl, rfl, by omega, ?_⟩⟩
      refine ⟨_, rfl, g, _, 0, .int x, rfl, rfl, .inl (.inl hg), atI_nat (j := 0) rfl, _, rfl, x, b, rfl, rfl, wide_div (b := 200) (by omega) (ab (by omega) hb2) (by decide) (by decide), _, rfl, g, _, 0, 0, rfl, rfl, hg, rfl, ?_⟩
      exact ⟨_, rfl, q _ _ sameX_upd ⟨x / b, y, c, upd_same, Int.ediv_nonneg x0 (by omega), y0, y1, c0, by omega⟩ (fm0 (by omega)) (fm1 (by omega))⟩
    · -- by the hash
      have ib : Builtin.Int.intBits b ≤ 200 := intBits_le (ab (by omega) hb2)
      have tn : (1 + ((Builtin.Int.intBits b : Nat) : Int) / 30).toNat ≤ 7 := by omega
      refine ⟨_, rfl, b, rfl, _, _, rfl, rfl, wide_div (b := 200) (by decide) (by decide) (by decide) (by decide), _, _, rfl, rfl, _, rfl, by omega, by omega, ?_⟩
      refine for_it walk_range (fun i σ H3 => ∃ (d : Int) (y3 : Option V) (c3 : Int), σ = [some (.ref g), some (.int b), some (.int d), y3] ∧ SameX g H H3 ∧ H3 g = some (.lst [.int x, .int y, .int c3]) ∧ c3 = c + i ∧ 0 ≤ d ∧ d < 2 ^ (32 * i) ∧ i ≤ 7)
        ⟨0, none, c, rfl, .refl _ _, hg, by simp, Int.le_refl _, by decide, by decide⟩ (fun _ _ _ _ _ => True.intro) (fun i v σ H3 H4 hi p yy => ?_) fun σ H3 p => ?_
      · obtain ⟨d, y3, c3, rfl, s3, g3, ec, d0, d1, i7⟩ := p
        obtain ⟨rfl, rfl⟩ := yy
        have i6 : i ≤ 6 := by omega
        have u1 : (upd H4 g (.lst [.int x, .int y, .int (c3 + 1)])) g = some (.lst [.int x, .int y, .int (c3 + 1)]) := upd_same
        refine ⟨_, rfl, g, _, 2, .int c3, rfl, rfl, .inl (.inl g3), atI_nat (j := 2) rfl, _, _, rfl, rfl, _, rfl, g, _, 2, 2, rfl, rfl, g3, rfl, ?_⟩
        have ad : d.natAbs < 2 ^ (32 * i + 1) := ab d0 (Int.lt_of_lt_of_le d1 (by rw [Int.pow_succ]; have := pow_ge1 (32 * i); omega))
        refine ⟨_, rfl, d, _, rfl, rfl, wide_mul ad (show ((2147483587 : Int)).natAbs < 2 ^ 100 by decide) (by omega) (by decide) (by omega), ?_⟩
        refine ⟨_, rfl, g, _, 1, .int y, rfl, rfl, .inl (.inl u1), atI_nat (j := 1) rfl, _, rfl, g, _, 2, .int (c3 + 1), rfl, rfl, .inl (.inl u1), atI_nat (j := 2) rfl, y, c3 + 1, rfl, y0, y1, by omega, by omega, fun r r0 r1 => ⟨_, _, rfl, rfl, ?_⟩⟩
        refine ⟨_, _, c3 + 1, rfl, fun z o nz e => by rw [upd_ne nz]; exact s3 z o nz e, u1, by omega, by have : 0 ≤ d * 2147483587 := Int.mul_nonneg d0 (by decide); omega, ?_, by omega⟩
        rw [pow32]
        have := pow_ge1 (32 * i)
        omega
      · obtain ⟨d, y3, c3, rfl, s3, g3, ec, d0, d1, i7⟩ := p
        refine ⟨_, rfl, .inl ⟨d, rfl, _, rfl, d, b, rfl, rfl, by omega, ?_⟩⟩
        exact q _ _ s3 ⟨x, y, c3, g3, x0, y0, y1, by omega, by omega⟩ (fm0 (by omega)) (fm1 (by omega))
def sp_generator (K : PySem.W.Frag) : Sp := fun vs H Q _ => ∃ (a : Addr) (ns : List Int) (i : Nat), vs = [.ref a, .int i] ∧ SqL K H a (ns.map V.int) ∧ i ≤ 10 ∧ ∀ g H1 H', Same H H1 → H1 g = none → Same H1 H' → Gn 100000 H' g → Q (.ref g) H'
theorem c_law_generator (T : Txt K mg C E_InvalidText E_InvalidNumber E_TooMany E_CountError) : C8.Cal P w K mg base 2 "_law_generator" (sp_generator K) [] := by
  refine calF T.d_law_generator sc_law_generator (fun vs H Q E h => ?_) (fun f cdv A outer s H vs Q E hr h => ?_)
  · obtain ⟨_, _, _, rfl, _⟩ := h; rfl
  · obtain ⟨a, ns, i, rfl, ha, hi, q⟩ := h
    refine ⟨_, (pss_cons (ps_set (i := 2) sc_law_generator.nd rfl (Or.inl rfl) (pe_ifExp (pt_cmpR op_lt (pv 1) (pe_callB call_len_seq (by rfl) T.m_len (by decide +kernel) (pa_cons (pv 0) pa_nil)) (nomark _)) (pe_ix ix_list (pv 0) (pv 1) (fun _ _ => rfl)) (pe_op op_modN (pe_callB (cr_sum rfl) (by rfl) T.m_sum (by decide +kernel) (pa_cons (pe_slice sl_list (pv 0) po_none (po_some pe_int)) pa_nil)) pe_int)))
    (pss_one (ps_ret (pe_lst (pa_cons (pe_op op_modN (pe_callTy call_int1 (by rfl) T.m_int (by decide +kernel) (pa_cons (pe_callB (call_max2 rfl) (by rfl) T.m_max (by decide +kernel) (pa_cons (pe_op op_sub (pv 2) (pe_op op_powB pe_int pe_int)) (pa_cons pe_int pa_nil))) pa_nil)) (pe_op op_powB (pe_op op_powB pe_int pe_int) pe_int)) (pa_cons (pe_op op_modN (pe_callTy call_int1 (by rfl) T.m_int (by decide +kernel) (pa_cons (pv 2) pa_nil)) pe_int) (pa_cons (pe_op op_mulW pe_int (pv 1)) pa_nil))))))), ?_⟩
    refine ⟨_, rfl, _, rfl, a, _, rfl, .inl ha, _, _, rfl, rfl, _, rfl, ite2 (fun e => ?_) (fun e => ?_)⟩
    · have e' := of_decide_eq_true e
      rw [List.length_map] at e'
      have hi' : i < ns.length := by omega
      obtain ⟨H1, s1, eH⟩ : ∃ H1, Same H H1 ∧ H1 = H := ⟨H, Same.refl _, rfl⟩
      refine ⟨_, rfl, _, rfl, a, _, i, .int ns[i], rfl, rfl, ha, atI_nat (by rw [List.getElem?_map, List.getElem?_eq_getElem hi']; rfl), ?_⟩
      rw [← eH]
      refine ⟨_, rfl, _, _, rfl, rfl, ⟨by decide, by decide⟩, _, _, rfl, rfl, _, _, rfl, .inl ⟨_, rfl, _, _, rfl, rfl, ⟨by decide, by decide⟩, _, _, rfl, rfl, ⟨by decide, by decide⟩, _, _, rfl, rfl, (by decide : ((10 : Int) ^ Int.toNat 60) ^ Int.toNat 10 ≠ 0), ?_⟩⟩
      refine ⟨_, rfl, .inl ⟨_, rfl, _, _, rfl, rfl, (by decide : (2147483647 : Int) ≠ 0), ?_⟩⟩
      refine ⟨_, rfl, _, _, rfl, rfl, wide_mul (show ((1000 : Int)).natAbs < 2 ^ 100 by decide) (show ((i : Int)).natAbs < 2 ^ 100 by omega) (by decide) (by decide) (by decide), by show 3 ≤ sizeLine; decide, fun g hg => ?_⟩
      refine q g H1 _ s1 hg (sameNew hg) ⟨_, _, _, upd_same, fm0 (by decide), fm0 (by decide), Int.lt_trans (fm1 (by decide)) (by decide), by omega, by omega⟩
    · refine ⟨_, rfl, 1, rfl, a, _, rfl, ha, fun p hp => ?_⟩
      refine ⟨p, ns.take 1, rfl, .inl (.inl (by rw [upd_same, show ((1 : Int)) = ((1 : Nat) : Int) from rfl, cutV_take, List.map_take])), _, _, rfl, rfl, (by decide : (1000003 : Int) ≠ 0), ?_⟩
      generalize eH : upd H p _ = H1
      have s1 : Same H H1 := by rw [← eH]; exact sameNew hp
      refine ⟨_, rfl, _, _, rfl, rfl, ⟨by decide, by decide⟩, _, _, rfl, rfl, _, _, rfl, .inl ⟨_, rfl, _, _, rfl, rfl, ⟨by decide, by decide⟩, _, _, rfl, rfl, ⟨by decide, by decide⟩, _, _, rfl, rfl, (by decide : ((10 : Int) ^ Int.toNat 60) ^ Int.toNat 10 ≠ 0), ?_⟩⟩
      refine ⟨_, rfl, .inl ⟨_, rfl, _, _, rfl, rfl, (by decide : (2147483647 : Int) ≠ 0), ?_⟩⟩
      refine ⟨_, rfl, _, _, rfl, rfl, wide_mul (show ((1000 : Int)).natAbs < 2 ^ 100 by decide) (show ((i : Int)).natAbs < 2 ^ 100 by omega) (by decide) (by decide) (by decide), by show 3 ≤ sizeLine; decide, fun g hg => ?_⟩
      refine q g H1 _ s1 hg (sameNew hg) ⟨_, _, _, upd_same, fm0 (by decide), fm0 (by decide), Int.lt_trans (fm1 (by decide)) (by decide), by omega, by omega⟩
end
end K59W

set_option Elab.async false
set_option linter.all false
set_option maxRecDepth 100000
set_option maxHeartbeats 2000000
/-! d.update(e) of two dicts -/
namespace CK
open PySem PySem.Spec PyProof.Rows L2 SX
section
variable {X : Cx}
def rUpdK : V → List V → Hp → VK → Prop := fun x vs H Q => ∃ (a b : Addr) (kvs more : List (Key × V)), x = .ref a ∧ vs = [.ref b] ∧ a ≠ b ∧ H a = some (.dK kvs) ∧ H b = some (.dK more) ∧ kvs.length + more.length ≤ sizeLine ∧ Q .non (upd H a (.dK (mergeK kvs more)))
theorem mt_updK : MtM X "dict.update" rUpdK := by
  intro pins s σ H x vs v us Q I rx rv h
  obtain ⟨a, b, kvs, more, rfl, rfl, ne, hA, hB, hz, q⟩ := h
  cases rx
  obtain ⟨u, rfl, ru⟩ := rv.one
  cases ru
  obtain ⟨z1, hd1, vs1, rel1, dd1⟩ := dk_of I.hok hA
  obtain ⟨z2, hd2, vs2, rel2, dd2⟩ := dk_of I.hok hB
  refine call_meetsIn PySem.F.slot_dict_update dd1.typeIs PySem.F.entry_dict_update (PySem.F.args_dict_update_2 _ _) (meets_dict_update (mixKind X.prog X.w) a b ne hd2)
    ⟨vs1, vs2, dd1, dd2, by rw [← rel1.length, ← rel2.length]; exact hz, fun h' dd' _ hs => ?_⟩
  have he : ∃ q, h'.get? a = some q := let ⟨q, _, _, hq, _⟩ := dd'; ⟨q, hq⟩
  exact ⟨.non, _, d_write (t' := s.toks) I (by rw [hA]; exact True.intro) hs he (dk_new (Nat.le_trans (length_mergeK more kvs) hz) hd1 (KV.merge rel2 rel1) dd'), rfl, q⟩
theorem room1 {k : Nat} {A : Around} (hr : Room k A) : A.units + 1 < cLine := by
  have := hr.units
  omega
/-- a statement that raises nothing, in a def that raises -/
theorem ps_noxE {st : Stmt} {t : TS} (h : PS X.nox st t) : PS X st t := ⟨fun ps z σ H D I q => wpAny_mono (h.run ps z σ H D (I.wish _) q) (fun _ _ y => y.unwish) (fun _ _ y => y.elim)⟩
end
theorem same_lock {H H' : Hp} {d : Addr} {od : Obj} {u : HO} (h : H d = some u) (s : Same (upd H d (.frz od u)) H') : H' d = some (.frz od u) ∧ Same H (upd H' d u) := by
  refine ⟨s _ _ upd_same, fun b o e => ?_⟩
  by_cases z : b = d
  · rw [z] at e ⊢
    rw [upd_same, ← h]
    exact e.symm ▸ rfl
  · rw [upd_ne z]
    exact s _ _ (by rw [upd_ne z]; exact e)
theorem same_lockX {H H' : Hp} {d D : Addr} {od : Obj} {u : HO} (h : H d = some u) (ne : d ≠ D) (s : ∀ b o, b ≠ D → (upd H d (.frz od u)) b = some o → H' b = some o) : H' d = some (.frz od u) ∧ ∀ b o, b ≠ D → H b = some o → (upd H' d u) b = some o := by
  refine ⟨s _ _ ne upd_same, fun b o nb e => ?_⟩
  by_cases z : b = d
  · rw [z] at e ⊢
    rw [upd_same, ← h]
    exact e.symm ▸ rfl
  · rw [upd_ne z]
    exact s _ _ nb (by rw [upd_ne z]; exact e)
/-- [.. for k in d if ..], d locked -/
theorem lc_keys {d : Addr} {od : Obj} {ks : List (Key × V)} {g : TG} {tt : TT} {te : TE} {vs : List Nat} {σ : L2.St} {H1 : Hp} {D : Addr} {Qd : Hp → Prop} (Pv : Nat → Hp → Prop) (h0 : Pv 0 (L2.upd H1 D (.lst []))) (hl : ∀ i H, i ≤ ks.length → Pv i H → H d = some (.frz od (.dK ks)))
    (hs : ∀ i k v H, ks[i]? = some (k, v) → Pv i H → g (kV k) (wipe σ vs) H fun σ2 H2 => wipe σ2 vs = wipe σ vs ∧ tt σ2 H2 fun b H3 =>
      if b = true then te σ2 H3 fun y H4 => ∃ acc, H4 D = some (.lst acc) ∧ acc.length < sizeLine ∧ Pv (i + 1) (L2.upd H4 D (.lst (acc ++ [y]))) else Pv (i + 1) H3) (hd : ∀ H, Pv ks.length H → Qd H) :
    ∃ W : Nat → Nat → Hp → Prop, (∃ m, W 0 m (L2.upd H1 D (.lst []))) ∧ ∀ i m H, W i m H →
      ((Itk d od ks).stop i H ∧ Qd H) ∨ ((Itk d od ks).go i H ∧ ∃ Nx : Hp → Prop, (∀ H', Nx H' → ∃ m', m' < m ∧ W (i + 1) m' H') ∧ ∀ x H', (Itk d od ks).yld i H x H' → g x (wipe σ vs) H' fun σ2 H2 => wipe σ2 vs = wipe σ vs ∧ tt σ2 H2 fun b H3 =>
        if b = true then te σ2 H3 fun y H4 => ∃ acc, H4 D = some (.lst acc) ∧ acc.length < sizeLine ∧ Nx (L2.upd H4 D (.lst (acc ++ [y]))) else Nx H3) := by
  refine ⟨fun i m H => m = ks.length - i ∧ i ≤ ks.length ∧ Pv i H, ⟨ks.length, by simp, Nat.zero_le _, h0⟩, ?_⟩
  rintro i m H ⟨rfl, hi, p⟩
  have q := hl i H hi p
  by_cases hlt : i < ks.length
  · refine .inr ⟨⟨q, hlt⟩, Pv (i + 1), fun H' p' => ⟨ks.length - (i + 1), by omega, rfl, hlt, p'⟩, fun x H' y => ?_⟩
    obtain ⟨rfl, k, v, e, rfl⟩ := y
    exact hs i k v _ e p
  · have e : i = ks.length := by omega
    subst e
    exact .inl ⟨⟨q, Nat.le_refl _⟩, hd H p⟩
/-- [.. for x in t if ..], t a tuple -/
theorem lc_tupS {K : PySem.W.Frag} {a : Addr} {xs : List V} {g : TG} {tt : TT} {te : TE} {vs : List Nat} {σ : L2.St} {H1 : Hp} {D : Addr} {Qd : Hp → Prop} (Pv : Nat → Hp → Prop) (h0 : Pv 0 (L2.upd H1 D (.lst []))) (hl : ∀ i H, i ≤ xs.length → Pv i H → SqT K H a xs)
    (hs : ∀ i x H, xs[i]? = some x → Pv i H → g x (wipe σ vs) H fun σ2 H2 => wipe σ2 vs = wipe σ vs ∧ tt σ2 H2 fun b H3 =>
      if b = true then te σ2 H3 fun y H4 => ∃ acc, H4 D = some (.lst acc) ∧ acc.length < sizeLine ∧ Pv (i + 1) (L2.upd H4 D (.lst (acc ++ [y]))) else Pv (i + 1) H3) (hd : ∀ H, Pv xs.length H → Qd H) :
    ∃ W : Nat → Nat → Hp → Prop, (∃ m, W 0 m (L2.upd H1 D (.lst []))) ∧ ∀ i m H, W i m H →
      ((Itt K a).stop i H ∧ Qd H) ∨ ((Itt K a).go i H ∧ ∃ Nx : Hp → Prop, (∀ H', Nx H' → ∃ m', m' < m ∧ W (i + 1) m' H') ∧ ∀ x H', (Itt K a).yld i H x H' → g x (wipe σ vs) H' fun σ2 H2 => wipe σ2 vs = wipe σ vs ∧ tt σ2 H2 fun b H3 =>
        if b = true then te σ2 H3 fun y H4 => ∃ acc, H4 D = some (.lst acc) ∧ acc.length < sizeLine ∧ Nx (L2.upd H4 D (.lst (acc ++ [y]))) else Nx H3) := by
  refine ⟨fun i m H => m = xs.length - i ∧ i ≤ xs.length ∧ Pv i H, ⟨xs.length, by simp, Nat.zero_le _, h0⟩, ?_⟩
  rintro i m H ⟨rfl, hi, p⟩
  have q := hl i H hi p
  by_cases hlt : i < xs.length
  · refine .inr ⟨⟨xs, xs[i], q, by simp [hlt]⟩, Pv (i + 1), fun H' p' => ⟨xs.length - (i + 1), by omega, rfl, hlt, p'⟩, fun x H' y => ?_⟩
    obtain ⟨e, y⟩ := y
    subst e
    exact hs i x _ (y xs q) p
  · have e : i = xs.length := by omega
    subst e
    exact .inl ⟨⟨xs, q, Nat.le_refl _⟩, hd H p⟩
/-- {..: .. for i in range(..)} -/
theorem dc_range {lo : Int} {n : Nat} {g : TG} {tt : TT} {tk tv : TE} {vs : List Nat} {σ : L2.St} {H1 : Hp} {D : Addr} {Qd : Hp → Prop} (Pv : Nat → Hp → Prop) (h0 : Pv 0 (L2.upd H1 D (.dK [])))
    (hs : ∀ i H, i < n → Pv i H → g (.int (lo + i)) (wipe σ vs) H fun σ2 H2 => wipe σ2 vs = wipe σ vs ∧ tt σ2 H2 fun b H3 =>
      if b = true then tk σ2 H3 fun y H4 => tv σ2 H4 fun z H5 => ∃ kvs k, y = kV k ∧ H5 D = some (.dK kvs) ∧ kvs.length < sizeLine ∧ Pv (i + 1) (L2.upd H5 D (.dK (putK kvs k z))) else Pv (i + 1) H3) (hd : ∀ H, Pv n H → Qd H) :
    ∃ W : Nat → Nat → Hp → Prop, (∃ m, W 0 m (L2.upd H1 D (.dK []))) ∧ ∀ i m H, W i m H →
      ((Itr lo n).stop i H ∧ Qd H) ∨ ((Itr lo n).go i H ∧ ∃ Nx : Hp → Prop, (∀ H', Nx H' → ∃ m', m' < m ∧ W (i + 1) m' H') ∧ ∀ x H', (Itr lo n).yld i H x H' → g x (wipe σ vs) H' fun σ2 H2 => wipe σ2 vs = wipe σ vs ∧ tt σ2 H2 fun b H3 =>
        if b = true then tk σ2 H3 fun y H4 => tv σ2 H4 fun z H5 => ∃ kvs k, y = kV k ∧ H5 D = some (.dK kvs) ∧ kvs.length < sizeLine ∧ Nx (L2.upd H5 D (.dK (putK kvs k z))) else Nx H3) := by
  refine ⟨fun i m H => m = n - i ∧ i ≤ n ∧ Pv i H, ⟨n, by simp, Nat.zero_le _, h0⟩, ?_⟩
  rintro i m H ⟨rfl, hi, p⟩
  by_cases hlt : i < n
  · refine .inr ⟨hlt, Pv (i + 1), fun H' p' => ⟨n - (i + 1), by omega, rfl, hlt, p'⟩, fun x H' y => ?_⟩
    obtain ⟨e, y⟩ := y
    subst e y
    exact hs i _ hlt p
  · have e : i = n := by omega
    subst e
    exact .inl ⟨Nat.le_refl _, hd H p⟩
end CK

set_option Elab.async false
set_option linter.all false
set_option maxRecDepth 100000
set_option maxHeartbeats 4000000
/-! name = {k: v for ..}; the same over a list, over the keys of a locked dict; a list over such keys -/
namespace CK
open PySem PySem.Spec PyProof.Rows L2
section
variable {X : Cx}
theorem ps_setDc {i : Nat} {y : Str} {py : Pos} {kx vx tg iter : Expr} {ifs : List Expr} {scope : Scope} {own : List (Str × Nat)} {pos spos : Pos} {wi : TI} {g : TG} {tt : TT} {tk tv : TE} (hc : X.calm = true) (hN : X.N.Nodup) (hy : X.N[i]? = some y) (hyl : X.env.scope.names.lookup y = some .local)
    (hsw : swapsWith (.DictComp kx vx [⟨tg, iter, ifs, 0⟩] scope pos) (some (.Name y py)) spos.line X.env = pure true) (hi : PI X tg iter wi) (ok : BlkOk X.N X.env.scope scope own)
    (hg : ∀ (s : Shared) (H : Hp) (C : Addr) (cl : List (Str × Addr)) (fp : List Addr), PG (X.blk s H scope (compEnvC scope cl C X.env) fp) tg g) (ht : ∀ (s : Shared) (H : Hp) (C : Addr) (cl : List (Str × Addr)) (fp : List Addr), PTs (X.blk s H scope (compEnvC scope cl C X.env) fp) ifs tt)
    (hk : ∀ (s : Shared) (H : Hp) (C : Addr) (cl : List (Str × Addr)) (fp : List Addr), PE (X.blk s H scope (compEnvC scope cl C X.env) fp) kx tk)
    (he : ∀ (s : Shared) (H : Hp) (C : Addr) (cl : List (Str × Addr)) (fp : List Addr), PE (X.blk s H scope (compEnvC scope cl C X.env) fp) vx tv) (hs : ∀ x, foldedSetIterable iter X.env x = pure x := by intro _; rfl) :
    PS X (.Assign [.Name y py] (.DictComp kx vx [⟨tg, iter, ifs, 0⟩] scope pos) spos) (tAsg (tDc wi g tt tk tv (own.map (·.2))) (gName i)) := by
  refine ⟨fun pins s σ H D I h => ?_⟩
  rw [exec_Assign_Name_used _ _ _ _ hsw]
  refine wpAny_bind (wpAny_standAt (wpAny_bind ?_))
  show wpAny _ X.A (do let _ ← comprehension (.DictComp kx vx [⟨tg, iter, ifs, 0⟩] scope pos) scope X.env (firstIterPos [⟨tg, iter, ifs, 0⟩] pos) newDict false (eval iter X.env) (some (assign (.Name y py) X.env))) _ _ s
  have h : tDc wi g tt tk tv (own.map (·.2)) σ H (fun x H1 => gName i x σ H1 D.nx) := h
  refine wpAny_bind (thn (dc_core (Qf := fun _ s' => SP X pins D .next s') hc hN I hi ok hg ht hk he hs h fun L C s' m H' I' q hn f => ?_) fun _ s' hq => wpAny_pure (wpAny_pure hq))
  show wpAny _ _ (assign (.Name y py) X.env (.ref L)) _ _ _
  refine wpAny_assign_Name (store_ok2 (v := V.ref L) I' hN hy (.inl hyl) rfl (fun s2 I2 ⟨a, sb, ha⟩ => ?_) (.inr hyl))
  obtain ⟨f0, f1, f2, f3, f4, f5⟩ := f
  have haC : C ≠ a := by
    rcases ha with z | z
    · rw [z]; exact f1
    · exact fun e => f4 y a z e.symm
  refine ⟨m, hn.sameBut sb haC, fun h3 sb3 => ?_⟩
  exact ⟨_, H', I2.turned (t' := s2.toks) (fun b o hb e => (sb3.2 b hb).trans e) f0 f1 f3 f4 f5, q⟩
theorem sw_trueD {kx vx : Expr} {gs : List Comprehension} {scope : Scope} {pos py : Pos} {y : Str} {l : Nat} {env : Env} (hk : env.scope.kind = .function) (hy : env.scope.names.lookup y = some .local) (hl : (py.line == pos.line) = true)
    (ha : (scope.names.any fun (n, k) => n == y && (k == .local || k == .cell)) = false) : swapsWith (.DictComp kx vx gs scope pos) (some (.Name y py)) l env = pure true := by
  have ky : env.kindOf y = some .local := hy
  have hb : env.blockKind = .function := by unfold Env.blockKind; rw [hk]; rfl
  unfold swapsWith
  simp only [hb, ky, ha, Expr.pos, hl]
  rfl
end
/-- over a list that stays -/
theorem dc_list {K : PySem.W.Frag} {a : Addr} {xs : List V} {g : TG} {tt : TT} {tk tv : TE} {vs : List Nat} {σ : L2.St} {H1 : Hp} {D : Addr} {Qd : Hp → Prop} (Pv : Nat → Hp → Prop) (h0 : Pv 0 (L2.upd H1 D (.dK []))) (hl : ∀ i H, i ≤ xs.length → Pv i H → SqL K H a xs)
    (hs : ∀ i x H, xs[i]? = some x → Pv i H → g x (wipe σ vs) H fun σ2 H2 => wipe σ2 vs = wipe σ vs ∧ tt σ2 H2 fun b H3 =>
      if b = true then tk σ2 H3 fun y H4 => tv σ2 H4 fun z H5 => ∃ kvs k, y = kV k ∧ H5 D = some (.dK kvs) ∧ kvs.length < sizeLine ∧ Pv (i + 1) (L2.upd H5 D (.dK (putK kvs k z))) else Pv (i + 1) H3) (hd : ∀ H, Pv xs.length H → Qd H) :
    ∃ W : Nat → Nat → Hp → Prop, (∃ m, W 0 m (L2.upd H1 D (.dK []))) ∧ ∀ i m H, W i m H →
      ((Itl K a).stop i H ∧ Qd H) ∨ ((Itl K a).go i H ∧ ∃ Nx : Hp → Prop, (∀ H', Nx H' → ∃ m', m' < m ∧ W (i + 1) m' H') ∧ ∀ x H', (Itl K a).yld i H x H' → g x (wipe σ vs) H' fun σ2 H2 => wipe σ2 vs = wipe σ vs ∧ tt σ2 H2 fun b H3 =>
        if b = true then tk σ2 H3 fun y H4 => tv σ2 H4 fun z H5 => ∃ kvs k, y = kV k ∧ H5 D = some (.dK kvs) ∧ kvs.length < sizeLine ∧ Nx (L2.upd H5 D (.dK (putK kvs k z))) else Nx H3) := by
  refine ⟨fun i m H => m = xs.length - i ∧ i ≤ xs.length ∧ Pv i H, ⟨xs.length, by simp, Nat.zero_le _, h0⟩, ?_⟩
  rintro i m H ⟨rfl, hi, p⟩
  have q := hl i H hi p
  by_cases hlt : i < xs.length
  · refine .inr ⟨⟨xs, xs[i], q, by simp [hlt]⟩, Pv (i + 1), fun H' p' => ⟨xs.length - (i + 1), by omega, rfl, hlt, p'⟩, fun x H' y => ?_⟩
    obtain ⟨e, y⟩ := y
    subst e
    exact hs i x _ (y xs q) p
  · have e : i = xs.length := by omega
    subst e
    exact .inl ⟨⟨xs, q, Nat.le_refl _⟩, hd H p⟩
/-- over the keys of a locked dict -/
theorem dc_keys {d : Addr} {od : Obj} {ks : List (Key × V)} {g : TG} {tt : TT} {tk tv : TE} {vs : List Nat} {σ : L2.St} {H1 : Hp} {D : Addr} {Qd : Hp → Prop} (Pv : Nat → Hp → Prop) (h0 : Pv 0 (L2.upd H1 D (.dK []))) (hl : ∀ i H, i ≤ ks.length → Pv i H → H d = some (.frz od (.dK ks)))
    (hs : ∀ i k v H, ks[i]? = some (k, v) → Pv i H → g (kV k) (wipe σ vs) H fun σ2 H2 => wipe σ2 vs = wipe σ vs ∧ tt σ2 H2 fun b H3 =>
      if b = true then tk σ2 H3 fun y H4 => tv σ2 H4 fun z H5 => ∃ kvs k, y = kV k ∧ H5 D = some (.dK kvs) ∧ kvs.length < sizeLine ∧ Pv (i + 1) (L2.upd H5 D (.dK (putK kvs k z))) else Pv (i + 1) H3) (hd : ∀ H, Pv ks.length H → Qd H) :
    ∃ W : Nat → Nat → Hp → Prop, (∃ m, W 0 m (L2.upd H1 D (.dK []))) ∧ ∀ i m H, W i m H →
      ((Itk d od ks).stop i H ∧ Qd H) ∨ ((Itk d od ks).go i H ∧ ∃ Nx : Hp → Prop, (∀ H', Nx H' → ∃ m', m' < m ∧ W (i + 1) m' H') ∧ ∀ x H', (Itk d od ks).yld i H x H' → g x (wipe σ vs) H' fun σ2 H2 => wipe σ2 vs = wipe σ vs ∧ tt σ2 H2 fun b H3 =>
        if b = true then tk σ2 H3 fun y H4 => tv σ2 H4 fun z H5 => ∃ kvs k, y = kV k ∧ H5 D = some (.dK kvs) ∧ kvs.length < sizeLine ∧ Nx (L2.upd H5 D (.dK (putK kvs k z))) else Nx H3) := by
  refine ⟨fun i m H => m = ks.length - i ∧ i ≤ ks.length ∧ Pv i H, ⟨ks.length, by simp, Nat.zero_le _, h0⟩, ?_⟩
  rintro i m H ⟨rfl, hi, p⟩
  have q := hl i H hi p
  by_cases hlt : i < ks.length
  · refine .inr ⟨⟨q, hlt⟩, Pv (i + 1), fun H' p' => ⟨ks.length - (i + 1), by omega, rfl, hlt, p'⟩, fun x H' y => ?_⟩
    obtain ⟨rfl, k, v, e, rfl⟩ := y
    exact hs i k v _ e p
  · have e : i = ks.length := by omega
    subst e
    exact .inl ⟨⟨q, Nat.le_refl _⟩, hd H p⟩
end CK

set_option Elab.async false
set_option linter.all false
set_option maxRecDepth 100000
/-! a comprehension of two `for`: over a list that the block leaves as it is, within it over a range -/
namespace CK
open PySem PySem.Spec PyProof.Rows L2
/-- what one turn of the outer `for` asks, with Nx behind it -/
abbrev Turn2 (g : TG) (tt : TT) (wi1 : TI) (g1 : TG) (tt1 : TT) (te : TE) (vs vs1 : List Nat) (σ : L2.St) (D : Addr) (x : V) (H' : Hp) (Nx : Hp → Prop) : Prop :=
  g x (wipe σ vs) H' fun σ2 H2 => wipe σ2 vs = wipe σ vs ∧ tt σ2 H2 fun b H3 =>
    if b = true then wi1 σ2 H3 fun J1 H4 => ∃ W1 : Nat → Nat → Hp → Prop, (∃ m, W1 0 m H4) ∧ ∀ j k H, W1 j k H →
      (J1.stop j H ∧ Nx H) ∨ (J1.go j H ∧ ∃ Nx1 : Hp → Prop, (∀ H', Nx1 H' → ∃ k', k' < k ∧ W1 (j + 1) k' H') ∧ ∀ x H', J1.yld j H x H' → g1 x (wipe σ2 vs1) H' fun σ3 H5 => wipe σ3 vs1 = wipe σ2 vs1 ∧ tt1 σ3 H5 fun b H6 =>
        if b = true then te σ3 H6 fun y H7 => ∃ acc, H7 D = some (.lst acc) ∧ acc.length < sizeLine ∧ Nx1 (L2.upd H7 D (.lst (acc ++ [y]))) else Nx1 H6)
    else Nx H3
theorem lc2_list {K : PySem.W.Frag} {a : Addr} {xs : List V} {g : TG} {tt : TT} {wi1 : TI} {g1 : TG} {tt1 : TT} {te : TE} {vs vs1 : List Nat} {σ : L2.St} {H1 : Hp} {D : Addr} {Qd : Hp → Prop} (Pv : Nat → Hp → Prop) (h0 : Pv 0 (L2.upd H1 D (.lst []))) (hl : ∀ i H, i ≤ xs.length → Pv i H → SqL K H a xs)
    (hs : ∀ i x H, xs[i]? = some x → Pv i H → Turn2 g tt wi1 g1 tt1 te vs vs1 σ D x H (Pv (i + 1))) (hd : ∀ H, Pv xs.length H → Qd H) :
    ∃ W : Nat → Nat → Hp → Prop, (∃ m, W 0 m (L2.upd H1 D (.lst []))) ∧ ∀ i m H, W i m H →
      ((Itl K a).stop i H ∧ Qd H) ∨ ((Itl K a).go i H ∧ ∃ Nx : Hp → Prop, (∀ H', Nx H' → ∃ m', m' < m ∧ W (i + 1) m' H') ∧ ∀ x H', (Itl K a).yld i H x H' → Turn2 g tt wi1 g1 tt1 te vs vs1 σ D x H' Nx) := by
  refine ⟨fun i m H => m = xs.length - i ∧ i ≤ xs.length ∧ Pv i H, ⟨xs.length, by simp, Nat.zero_le _, h0⟩, ?_⟩
  rintro i m H ⟨rfl, hi, p⟩
  have q := hl i H hi p
  by_cases hlt : i < xs.length
  · refine .inr ⟨⟨xs, xs[i], q, by simp [hlt]⟩, Pv (i + 1), fun H' p' => ⟨xs.length - (i + 1), by omega, rfl, hlt, p'⟩, fun x H' y => ?_⟩
    obtain ⟨e, y⟩ := y
    subst e
    exact hs i x _ (y xs q) p
  · have e : i = xs.length := by omega
    subst e
    exact .inl ⟨⟨xs, q, Nat.le_refl _⟩, hd H p⟩
/-- the inner `for` over a range -/
theorem in_range {lo : Int} {n : Nat} {g1 : TG} {tt1 : TT} {te : TE} {vs1 : List Nat} {σ2 : L2.St} {H4 : Hp} {D : Addr} {Nx : Hp → Prop} (Pv : Nat → Hp → Prop) (h0 : Pv 0 H4)
    (hs : ∀ i H, i < n → Pv i H → g1 (.int (lo + i)) (wipe σ2 vs1) H fun σ3 H5 => wipe σ3 vs1 = wipe σ2 vs1 ∧ tt1 σ3 H5 fun b H6 =>
      if b = true then te σ3 H6 fun y H7 => ∃ acc, H7 D = some (.lst acc) ∧ acc.length < sizeLine ∧ Pv (i + 1) (L2.upd H7 D (.lst (acc ++ [y]))) else Pv (i + 1) H6) (hd : ∀ H, Pv n H → Nx H) :
    ∃ W1 : Nat → Nat → Hp → Prop, (∃ m, W1 0 m H4) ∧ ∀ j k H, W1 j k H →
      ((Itr lo n).stop j H ∧ Nx H) ∨ ((Itr lo n).go j H ∧ ∃ Nx1 : Hp → Prop, (∀ H', Nx1 H' → ∃ k', k' < k ∧ W1 (j + 1) k' H') ∧ ∀ x H', (Itr lo n).yld j H x H' → g1 x (wipe σ2 vs1) H' fun σ3 H5 => wipe σ3 vs1 = wipe σ2 vs1 ∧ tt1 σ3 H5 fun b H6 =>
        if b = true then te σ3 H6 fun y H7 => ∃ acc, H7 D = some (.lst acc) ∧ acc.length < sizeLine ∧ Nx1 (L2.upd H7 D (.lst (acc ++ [y]))) else Nx1 H6) := by
  refine ⟨fun i m H => m = n - i ∧ i ≤ n ∧ Pv i H, ⟨n, by simp, Nat.zero_le _, h0⟩, ?_⟩
  rintro i m H ⟨rfl, hi, p⟩
  by_cases hlt : i < n
  · refine .inr ⟨hlt, Pv (i + 1), fun H' p' => ⟨n - (i + 1), by omega, rfl, hlt, p'⟩, fun x H' y => ?_⟩
    obtain ⟨e, y⟩ := y
    subst e y
    exact hs i _ hlt p
  · have e : i = n := by omega
    subst e
    exact .inl ⟨Nat.le_refl _, hd H p⟩
end CK

set_option Elab.async false
set_option linter.all false
/-! words by length, those of one length by their letters: two sorts one behind the other, and one sort of pairs -/
namespace CK
open PySem PySem.W
def leW (a b : List Nat) : Bool := decide (a ≤ b)
def leL (a b : List Nat) : Bool := decide (a.length ≤ b.length)
theorem total_leW : TotalLe leW := ⟨fun a b c h1 h2 => decide_eq_true (List.le_trans (of_decide_eq_true h1) (of_decide_eq_true h2)), fun a b => (List.le_total a b).elim (fun h => .inl (decide_eq_true h)) fun h => .inr (decide_eq_true h)⟩
theorem total_leL : TotalLe leL := ⟨fun a b c h1 h2 => decide_eq_true (Nat.le_trans (of_decide_eq_true h1) (of_decide_eq_true h2)), fun a b => (Nat.le_total a.length b.length).elim (fun h => .inl (decide_eq_true h)) fun h => .inr (decide_eq_true h)⟩
/-- the shorter one first, of one length the one whose letters are ahead -/
def Rk (a b : List Nat) : Prop := a.length < b.length ∨ (a.length = b.length ∧ a ≤ b)
theorem rk_anti {a b : List Nat} (h : Rk a b) (h' : Rk b a) : a = b := by
  rcases h with h | ⟨h, l⟩ <;> rcases h' with h' | ⟨h', l'⟩
  · omega
  · omega
  · omega
  · exact List.le_antisymm l l'
theorem two_sorts (l : List (List Nat)) : ((l.mergeSort leW).mergeSort leL).Pairwise Rk := by
  rw [List.pairwise_iff_forall_sublist]
  intro a b hs
  have h1 : leL a b = true := List.pairwise_iff_forall_sublist.mp (sort_pairwise total_leL _) hs
  have h1' := of_decide_eq_true h1
  by_cases e : a.length = b.length
  · refine .inr ⟨e, ?_⟩
    have sa : sameRank leL a a = true := sameRank_self total_leL a
    have sb : sameRank leL a b = true := by
      unfold sameRank leL
      rw [decide_eq_true (by omega), decide_eq_true (by omega)]
      rfl
    have h2 := hs.filter (sameRank leL a)
    rw [sort_stable total_leL, List.filter_cons, if_pos sa, List.filter_cons, if_pos sb, List.filter_nil] at h2
    have h3 := h2.trans List.filter_sublist
    exact of_decide_eq_true (List.pairwise_iff_forall_sublist.mp (sort_pairwise total_leW _) h3)
  · exact .inl (by omega)
theorem two_perm (l : List (List Nat)) : ((l.mergeSort leW).mergeSort leL).Perm l := (List.mergeSort_perm _ _).trans (List.mergeSort_perm _ _)
theorem rk_one {l m : List (List Nat)} (h : l.Pairwise Rk) (h' : m.Pairwise Rk) (p : l.Perm m) : l = m := List.Perm.eq_of_pairwise (fun _ _ _ _ x y => rk_anti x y) h h' p
theorem perm_of_mem : ∀ {l m : List (List Nat)}, l.Nodup → m.Nodup → (∀ z, z ∈ l ↔ z ∈ m) → l.Perm m
  | [], m, _, _, h => by
    cases m with
    | nil => exact .nil
    | cons a m => exact absurd ((h a).mpr List.mem_cons_self) List.not_mem_nil
  | a :: l, m, n1, n2, h => by
    obtain ⟨n0, n1⟩ := List.nodup_cons.mp n1
    have ha : a ∈ m := (h a).mp List.mem_cons_self
    have ih := perm_of_mem n1 (n2.erase a) fun z => by
      rw [n2.mem_erase_iff]
      constructor
      · intro hz
        exact ⟨fun e => n0 (e ▸ hz), (h z).mp (List.mem_cons_of_mem _ hz)⟩
      · rintro ⟨ne, hz⟩
        rcases List.mem_cons.mp ((h z).mpr hz) with e | e
        · exact absurd e ne
        · exact e
    exact (ih.cons a).trans (List.perm_cons_erase ha).symm
end CK

set_option linter.all false
/-! the parts of n letters of a word that is put together of powers: a power may be cut down -/
namespace PM
open NM
/-- f is a part of n letters of w -/
def Pt (n : Nat) (w f : List Nat) : Prop := ∃ i, i + n ≤ w.length ∧ f = (w.drop i).take n
theorem part_pre {n i : Nat} {a b : List Nat} (h : i + n ≤ a.length) : ((a ++ b).drop i).take n = (a.drop i).take n := by
  rw [List.drop_append_of_le_length (by omega), List.take_append_of_le_length (by rw [List.length_drop]; omega)]
theorem part_suf {n i : Nat} {a b : List Nat} (h : a.length ≤ i) : ((a ++ b).drop i).take n = (b.drop (i - a.length)).take n := by
  rw [List.drop_append, List.drop_eq_nil_of_le h, List.nil_append]
theorem pw_snoc (u : List Nat) (k : Nat) : WM.pw u (k + 1) = WM.pw u k ++ u := by
  have := WM.pw_add u k 1
  rw [this, WM.pw_succ, WM.pw_zero, List.append_nil]
/-- one power more keeps the parts -/
theorem step_sub {n k : Nat} {x u y f : List Nat} (h : n ≤ u.length * k + 1) (p : Pt n (x ++ (WM.pw u k ++ y)) f) : Pt n (x ++ (WM.pw u (k + 1) ++ y)) f := by
  obtain ⟨i, hi, rfl⟩ := p
  have l1 : (WM.pw u k).length = u.length * k := WM.pw_len u k
  have l2 : (WM.pw u (k + 1)).length = u.length * k + u.length := by rw [WM.pw_len, Nat.mul_succ]
  rw [List.length_append, List.length_append, l1] at hi
  by_cases c : i + n ≤ x.length + u.length * k
  · refine ⟨i, by rw [List.length_append, List.length_append, l2]; omega, ?_⟩
    have e1 := part_pre (n := n) (i := i) (a := x ++ WM.pw u k) (b := y) (by rw [List.length_append, l1]; exact c)
    have e2 := part_pre (n := n) (i := i) (a := x ++ WM.pw u k) (b := u ++ y) (by rw [List.length_append, l1]; exact c)
    rw [← List.append_assoc x (WM.pw u k) y, e1, pw_snoc, List.append_assoc (WM.pw u k), ← List.append_assoc x, e2]
  · have hx : x.length ≤ i := by omega
    refine ⟨i + u.length, by rw [List.length_append, List.length_append, l2]; omega, ?_⟩
    rw [WM.pw_succ, List.append_assoc, ← List.append_assoc x u, part_suf hx, part_suf (a := x ++ u) (by rw [List.length_append]; omega), List.length_append]
    congr 2
    omega
/-- one power less, where enough are left -/
theorem step_sup {n k : Nat} {x u y f : List Nat} (h : n ≤ u.length * k + 1) (p : Pt n (x ++ (WM.pw u (k + 2) ++ y)) f) : Pt n (x ++ (WM.pw u (k + 1) ++ y)) f := by
  obtain ⟨i, hi, rfl⟩ := p
  have l1 : (WM.pw u (k + 1)).length = u.length * k + u.length := by rw [WM.pw_len, Nat.mul_succ]
  have l2 : (WM.pw u (k + 2)).length = u.length * k + u.length + u.length := by rw [WM.pw_len, Nat.mul_succ, Nat.mul_succ]
  rw [List.length_append, List.length_append, l2] at hi
  by_cases c : i + n ≤ x.length + (u.length * k + u.length)
  · refine ⟨i, by rw [List.length_append, List.length_append, l1]; omega, ?_⟩
    have e1 := part_pre (n := n) (i := i) (a := x ++ WM.pw u (k + 1)) (b := y) (by rw [List.length_append, l1]; exact c)
    have e2 := part_pre (n := n) (i := i) (a := x ++ WM.pw u (k + 1)) (b := u ++ y) (by rw [List.length_append, l1]; exact c)
    rw [← List.append_assoc x (WM.pw u (k + 1)) y, e1, pw_snoc u (k + 1), List.append_assoc (WM.pw u (k + 1)), ← List.append_assoc x, e2]
  · have hx : x.length + u.length ≤ i := by omega
    refine ⟨i - u.length, by rw [List.length_append, List.length_append, l1]; omega, ?_⟩
    rw [WM.pw_succ u (k + 1), List.append_assoc, ← List.append_assoc x u, part_suf (a := x ++ u) (by rw [List.length_append]; exact hx), part_suf (a := x) (by omega), List.length_append]
    congr 2
    omega
theorem more_sub {n k : Nat} {x u y f : List Nat} (h : n ≤ u.length * k + 1) : ∀ d, Pt n (x ++ (WM.pw u k ++ y)) f → Pt n (x ++ (WM.pw u (k + d) ++ y)) f
  | 0, p => p
  | d + 1, p => step_sub (u := u) (k := k + d) (Nat.le_trans h (by have := Nat.mul_le_mul_left u.length (show k ≤ k + d by omega); omega)) (more_sub h d p)
theorem less_sup {n k : Nat} {x u y f : List Nat} (h : n ≤ u.length * k + 1) : ∀ d, Pt n (x ++ (WM.pw u (k + 1 + d) ++ y)) f → Pt n (x ++ (WM.pw u (k + 1) ++ y)) f
  | 0, p => p
  | d + 1, p => less_sup h d (by
    have := step_sup (u := u) (k := k + d) (Nat.le_trans h (by have := Nat.mul_le_mul_left u.length (show k ≤ k + d by omega); omega)) (by rw [show k + d + 2 = k + 1 + (d + 1) by omega]; exact p)
    rw [show k + d + 1 = k + 1 + d by omega] at this
    exact this)
/-- what is written of words and numbers of times -/
def wrN (xs : List (List Nat × Nat)) : List Nat := (xs.map fun p => WM.pw p.1 p.2).flatten
theorem wrN_cons (p : List Nat × Nat) (r : List (List Nat × Nat)) : wrN (p :: r) = WM.pw p.1 p.2 ++ wrN r := rfl
/-- number by number: equal, or from n - 1 on growing -/
def Up (n : Nat) : List (List Nat × Nat) → List (List Nat × Nat) → Prop
  | [], [] => True
  | p :: r, q :: s => p.1 = q.1 ∧ (p.2 = q.2 ∨ (p.2 ≤ q.2 ∧ n ≤ p.2 + 1) ∨ p.1 = []) ∧ Up n r s
  | _, _ => False
/-- number by number: equal, or both enough for n letters -/
def Eq (n : Nat) : List (List Nat × Nat) → List (List Nat × Nat) → Prop
  | [], [] => True
  | p :: r, q :: s => p.1 = q.1 ∧ (p.2 = q.2 ∨ (n ≤ p.1.length * (p.2 - 1) + 1 ∧ n ≤ p.1.length * (q.2 - 1) + 1 ∧ 1 ≤ p.2 ∧ 1 ≤ q.2) ∨ p.1 = []) ∧ Eq n r s
  | _, _ => False
theorem pw_nil (k : Nat) : WM.pw [] k = [] := by
  have := WM.pw_len [] k
  rw [List.length_nil, Nat.zero_mul] at this
  exact List.length_eq_zero_iff.mp this
theorem up_sub {n : Nat} {f : List Nat} : ∀ (xs ys : List (List Nat × Nat)) (a : List Nat), Up n xs ys → Pt n (a ++ wrN xs) f → Pt n (a ++ wrN ys) f
  | [], [], a, _, p => p
  | p :: r, q :: s, a, h, w => by
    obtain ⟨e, c, h'⟩ := h
    rw [wrN_cons] at w ⊢
    have one : Pt n (a ++ (WM.pw q.1 q.2 ++ wrN r)) f := by
      rcases c with c | ⟨c1, c2⟩ | c
      · rw [← e, ← c]; exact w
      · by_cases z : p.1 = []
        · rw [← e, z, pw_nil]
          rw [z, pw_nil] at w
          exact w
        · have n0 := List.length_pos_iff.mpr z
          have := Nat.le_mul_of_pos_left p.2 n0
          have := more_sub (k := p.2) (show n ≤ p.1.length * p.2 + 1 by omega) (q.2 - p.2) w
          rw [show p.2 + (q.2 - p.2) = q.2 by omega, e] at this
          exact this
      · rw [← e, c, pw_nil]
        rw [c, pw_nil] at w
        exact w
    have := up_sub r s (a ++ WM.pw q.1 q.2) h' (by rw [List.append_assoc]; exact one)
    rw [List.append_assoc] at this
    exact this
  | [], _ :: _, _, h, _ => h.elim
  | _ :: _, [], _, h, _ => h.elim
theorem eq_one {n k l : Nat} {x u y f : List Nat} (h1 : n ≤ u.length * (k - 1) + 1) (h2 : n ≤ u.length * (l - 1) + 1) (k1 : 1 ≤ k) (l1 : 1 ≤ l) (p : Pt n (x ++ (WM.pw u k ++ y)) f) : Pt n (x ++ (WM.pw u l ++ y)) f := by
  rcases Nat.le_total k l with c | c
  · have := more_sub (k := k) (Nat.le_trans h1 (by have := Nat.mul_le_mul_left u.length (show k - 1 ≤ k by omega); omega)) (l - k) p
    rw [show k + (l - k) = l by omega] at this
    exact this
  · have := less_sup (k := l - 1) h2 (k - l) (by rw [show l - 1 + 1 + (k - l) = k by omega]; exact p)
    rw [show l - 1 + 1 = l by omega] at this
    exact this
theorem eq_sub {n : Nat} {f : List Nat} : ∀ (xs ys : List (List Nat × Nat)) (a : List Nat), Eq n xs ys → Pt n (a ++ wrN xs) f → Pt n (a ++ wrN ys) f
  | [], [], a, _, p => p
  | p :: r, q :: s, a, h, w => by
    obtain ⟨e, c, h'⟩ := h
    rw [wrN_cons] at w ⊢
    have one : Pt n (a ++ (WM.pw q.1 q.2 ++ wrN r)) f := by
      rcases c with c | ⟨c1, c2, c3, c4⟩ | c
      · rw [← e, ← c]; exact w
      · rw [← e]; exact eq_one c1 c2 c3 c4 w
      · rw [← e, c, pw_nil]
        rw [c, pw_nil] at w
        exact w
    have := eq_sub r s (a ++ WM.pw q.1 q.2) h' (by rw [List.append_assoc]; exact one)
    rw [List.append_assoc] at this
    exact this
  | [], _ :: _, _, h, _ => h.elim
  | _ :: _, [], _, h, _ => h.elim
theorem eq_symm {n : Nat} : ∀ (xs ys : List (List Nat × Nat)), Eq n xs ys → Eq n ys xs
  | [], [], _ => True.intro
  | p :: r, q :: s, ⟨e, c, h⟩ => by
    refine ⟨e.symm, ?_, eq_symm r s h⟩
    rcases c with c | ⟨c1, c2, c3, c4⟩ | c
    · exact .inl c.symm
    · exact .inr (.inl ⟨by rw [← e]; exact c2, by rw [← e]; exact c1, c4, c3⟩)
    · exact .inr (.inr (by rw [← e]; exact c))
  | [], _ :: _, h => h.elim
  | _ :: _, [], h => h.elim
theorem eq_iff {n : Nat} {f : List Nat} {xs ys : List (List Nat × Nat)} (h : Eq n xs ys) : Pt n (wrN xs) f ↔ Pt n (wrN ys) f :=
  ⟨fun p => eq_sub xs ys [] h p, fun p => eq_sub ys xs [] (eq_symm xs ys h) p⟩
/-! ### cut down -/
theorem eq_map {n : Nat} (c : List Nat → Nat) (hc : ∀ u, u ≠ [] → n ≤ u.length * (c u - 1) + 1 ∧ 1 ≤ c u) : ∀ xs : List (List Nat × Nat), Eq n xs (xs.map fun p => (p.1, min p.2 (c p.1)))
  | [] => True.intro
  | p :: r => by
    refine ⟨rfl, ?_, eq_map c hc r⟩
    by_cases z : p.1 = []
    · exact .inr (.inr z)
    · obtain ⟨h1, h2⟩ := hc p.1 z
      by_cases l : p.2 ≤ c p.1
      · exact .inl (by show p.2 = min p.2 (c p.1); omega)
      · refine .inr (.inl ⟨?_, ?_, by omega, ?_⟩)
        · have := Nat.mul_le_mul_left p.1.length (show c p.1 - 1 ≤ p.2 - 1 by omega)
          omega
        · show n ≤ p.1.length * (min p.2 (c p.1) - 1) + 1
          rw [show min p.2 (c p.1) = c p.1 by omega]
          exact h1
        · show 1 ≤ min p.2 (c p.1)
          omega
/-- the program's bound is enough -/
theorem cap_prog {n : Nat} {u : List Nat} (h : u ≠ []) : n ≤ u.length * ((n - 1) / u.length + 2 - 1) + 1 ∧ 1 ≤ (n - 1) / u.length + 2 := by
  have n0 := List.length_pos_iff.mpr h
  have e := Nat.div_add_mod (n - 1) u.length
  have m := Nat.mod_lt (n - 1) n0
  generalize (n - 1) / u.length = q at e ⊢
  refine ⟨?_, Nat.le_add_left 1 (q + 1)⟩
  rw [show q + 2 - 1 = q + 1 by omega, Nat.mul_succ]
  omega
/-- and so is the law's -/
theorem cap_law {n : Nat} {u : List Nat} (h : u ≠ []) : n ≤ u.length * (n + 1 - 1) + 1 ∧ 1 ≤ n + 1 := by
  have := Nat.le_mul_of_pos_left n (List.length_pos_iff.mpr h)
  rw [show n + 1 - 1 = n by omega]
  omega
/-! ### points -/
def valsP (raw : List Pn) (pt : List Nat) : List (List Nat × Nat) := raw.map fun p => (p.1, valF p.2 pt)
theorem wr_valsP (pt : List Nat) : ∀ raw : List Pn, wrN (valsP raw pt) = wr pt raw
  | [] => rfl
  | p :: r => by
    show WM.pw p.1 (valF p.2 pt) ++ wrN (valsP r pt) = wrt pt p ++ wr pt r
    rw [wr_valsP pt r]
    rfl
/-- counts: equal, or both at least n -/
def Far (n : Nat) : List Nat → List Nat → Prop
  | [], [] => True
  | p :: ps, q :: qs => (p = q ∨ (n ≤ p ∧ n ≤ q)) ∧ Far n ps qs
  | _, _ => False
theorem dot_far {n : Nat} : ∀ (c p q : List Nat), Far n p q → dot c p = dot c q ∨ (n ≤ dot c p ∧ n ≤ dot c q)
  | [], p, q, _ => .inl (by cases p <;> cases q <;> rfl)
  | c :: cs, [], [], _ => .inl rfl
  | c :: cs, p :: ps, q :: qs, ⟨h, h'⟩ => by
    have ih := dot_far cs ps qs h'
    show c * p + dot cs ps = c * q + dot cs qs ∨ (n ≤ c * p + dot cs ps ∧ n ≤ c * q + dot cs qs)
    rcases h with rfl | ⟨h1, h2⟩
    · rcases ih with e | ⟨e1, e2⟩
      · exact .inl (by rw [e])
      · exact .inr ⟨by omega, by omega⟩
    · by_cases z : c = 0
      · subst z
        rw [Nat.zero_mul, Nat.zero_mul]
        rcases ih with e | ⟨e1, e2⟩
        · exact .inl (by rw [e])
        · exact .inr ⟨by omega, by omega⟩
      · have a := Nat.le_mul_of_pos_left p (Nat.pos_of_ne_zero z)
        have b := Nat.le_mul_of_pos_left q (Nat.pos_of_ne_zero z)
        exact .inr ⟨by omega, by omega⟩
  | _ :: _, [], _ :: _, h => h.elim
  | _ :: _, _ :: _, [], h => h.elim
theorem eq_far {n : Nat} (n1 : 1 ≤ n) {p q : List Nat} (h : Far n p q) : ∀ raw : List Pn, Eq n (valsP raw p) (valsP raw q)
  | [] => True.intro
  | r :: rs => by
    refine ⟨rfl, ?_, eq_far n1 h rs⟩
    show valF r.2 p = valF r.2 q ∨ _ ∨ _
    by_cases z : r.1 = []
    · exact .inr (.inr z)
    · have n0 := List.length_pos_iff.mpr z
      unfold valF
      rcases dot_far r.2.tail p q h with e | ⟨e1, e2⟩
      · exact .inl (by rw [e])
      · have a := Nat.le_mul_of_pos_left (r.2.headD 0 + dot r.2.tail p - 1) n0
        have b := Nat.le_mul_of_pos_left (r.2.headD 0 + dot r.2.tail q - 1) n0
        refine .inr (.inl ⟨?_, ?_, ?_, ?_⟩)
        · show n ≤ r.1.length * (r.2.headD 0 + dot r.2.tail p - 1) + 1
          omega
        · show n ≤ r.1.length * (r.2.headD 0 + dot r.2.tail q - 1) + 1
          omega
        · show 1 ≤ r.2.headD 0 + dot r.2.tail p
          omega
        · show 1 ≤ r.2.headD 0 + dot r.2.tail q
          omega
/-- counts: equal, or from n - 1 on growing -/
def Grw (n : Nat) : List Nat → List Nat → Prop
  | [], [] => True
  | p :: ps, q :: qs => (p = q ∨ (p ≤ q ∧ n ≤ p + 1)) ∧ Grw n ps qs
  | _, _ => False
theorem dot_grw {n : Nat} : ∀ (c p q : List Nat), Grw n p q → dot c p = dot c q ∨ (dot c p ≤ dot c q ∧ n ≤ dot c p + 1)
  | [], p, q, _ => .inl (by cases p <;> cases q <;> rfl)
  | c :: cs, [], [], _ => .inl rfl
  | c :: cs, p :: ps, q :: qs, ⟨h, h'⟩ => by
    have ih := dot_grw cs ps qs h'
    show c * p + dot cs ps = c * q + dot cs qs ∨ (c * p + dot cs ps ≤ c * q + dot cs qs ∧ n ≤ c * p + dot cs ps + 1)
    have le : dot cs ps ≤ dot cs qs := by rcases ih with e | ⟨e, _⟩ <;> omega
    rcases h with rfl | ⟨h1, h2⟩
    · rcases ih with e | ⟨e1, e2⟩
      · exact .inl (by rw [e])
      · exact .inr ⟨by omega, by omega⟩
    · by_cases z : c = 0
      · subst z
        rw [Nat.zero_mul, Nat.zero_mul]
        rcases ih with e | ⟨e1, e2⟩
        · exact .inl (by rw [e])
        · exact .inr ⟨by omega, by omega⟩
      · have a := Nat.le_mul_of_pos_left p (Nat.pos_of_ne_zero z)
        have b := Nat.mul_le_mul_left c h1
        exact .inr ⟨by omega, by omega⟩
  | _ :: _, [], _ :: _, h => h.elim
  | _ :: _, _ :: _, [], h => h.elim
theorem up_grw {n : Nat} {p q : List Nat} (h : Grw n p q) : ∀ raw : List Pn, Up n (valsP raw p) (valsP raw q)
  | [] => True.intro
  | r :: rs => by
    refine ⟨rfl, ?_, up_grw h rs⟩
    show valF r.2 p = valF r.2 q ∨ (valF r.2 p ≤ valF r.2 q ∧ n ≤ valF r.2 p + 1) ∨ _
    unfold valF
    rcases dot_grw r.2.tail p q h with e | ⟨e1, e2⟩
    · exact .inl (by rw [e])
    · exact .inr (.inl ⟨by omega, by omega⟩)
theorem far_min (n : Nat) : ∀ p : List Nat, Far n (p.map fun x => min x n) p
  | [] => True.intro
  | p :: ps => ⟨by dsimp only; omega, far_min n ps⟩
theorem grw_min (n : Nat) : ∀ p : List Nat, Grw n (p.map fun x => min x (n - 1)) p
  | [] => True.intro
  | p :: ps => ⟨by dsimp only; omega, grw_min n ps⟩
/-- the parts at a point are those at the point cut down to n -/
theorem parts_far {n : Nat} (n1 : 1 ≤ n) (raw : List Pn) (pt f : List Nat) : Pt n (wr pt raw) f ↔ Pt n (wr (pt.map fun x => min x n) raw) f := by
  rw [← wr_valsP, ← wr_valsP]
  exact (eq_iff (eq_far n1 (far_min n pt) raw)).symm
/-- what is a part at the point cut down to n - 1 is one at the point -/
theorem parts_grw {n : Nat} (raw : List Pn) {pt f : List Nat} (h : Pt n (wr (pt.map fun x => min x (n - 1)) raw) f) : Pt n (wr pt raw) f := by
  rw [← wr_valsP] at h ⊢
  exact up_sub _ _ [] (up_grw (grw_min n pt) raw) h
/-- both ways of cutting the numbers down keep the parts -/
theorem parts_prog {n : Nat} (ps : List Pn) (pt f : List Nat) : Pt n (wrN ((valsP ps pt).map fun p => (p.1, min p.2 ((n - 1) / p.1.length + 2)))) f ↔ Pt n (wr pt ps) f := by
  rw [← wr_valsP]
  exact (eq_iff (eq_map (fun u => (n - 1) / u.length + 2) (fun u h => cap_prog h) _)).symm
theorem parts_law {n : Nat} (ps : List Pn) (pt f : List Nat) : Pt n (wrN ((valsP ps pt).map fun p => (p.1, min p.2 (n + 1)))) f ↔ Pt n (wr pt ps) f := by
  rw [← wr_valsP]
  exact (eq_iff (eq_map (fun _ => n + 1) (fun u h => cap_law h) _)).symm
end PM

set_option Elab.async false
set_option linter.all false
set_option maxRecDepth 100000
set_option maxHeartbeats 2000000
/-! != of two objects of an own class that has an __eq__ and no __ne__ -/
namespace CK
open PySem PySem.Spec PyProof.Rows L2 SX
/-- the class has object's __ne__ -/
structure NeF (K : PySem.W.Frag) (C : Addr) : Prop where
  ne : PySem.W.findIn K (.ref C) "__ne__" = some (some (.builtin "object.__ne__"))
  sub : PySem.W.subIn K (.ref C) (.type "object") = some true
theorem neF_mk {K : PySem.W.Frag} {mg : Str → Option Value} {x : Str} {C : Addr} (_ : ClF K mg x C) (a : PySem.W.findIn K (.ref C) "__ne__" = some (some (.builtin "object.__ne__"))) (b : PySem.W.subIn K (.ref C) (.type "object") = some true) : NeF K C := ⟨a, b⟩
section
variable {prog : Program} {w : World} {A : Around} {E : Value → Shared → Prop} {s : Shared} {K : PySem.W.Frag} {x C f : Addr} {ox : Obj} {od : Option Obj} {b : Value}
theorem ne_body (hu : A.units < cLine) (X : K.In s.heap) (I : PySem.W.InstAt s.heap x ox C od) (hs : PySem.W.findIn K (.ref C) "__eq__" = some (some (.ref f))) (hf : PySem.W.isFn K (.ref f) = true) {Q : Fin → Shared → Prop}
    (h : wpAny (model prog w) A (call (.ref f) [.ref x, b]) (fun v s' => ∃ r, v = .bool r ∧ Q (.done (.ret (.bool !r))) s') E s) : wpAny (model prog w) A (Builtin.«object.__ne__» ⟨[.ref x, b], []⟩) Q E s := by
  have key : wpAny (model prog w) A (callSpecialIfBound? (.ref x) "__eq__" [b]) (fun v s' => ∃ r, v = some (.bool r) ∧ Q (.done (.ret (.bool !r))) s') E s :=
    PySem.W.ifBound_K X I hs hf (wpAny_mono h (fun v s' z => by obtain ⟨r, rfl, q⟩ := z; exact ⟨r, rfl, q⟩) fun _ _ e => e)
  unfold Builtin.«object.__ne__»
  refine wpAny_bind (wpAny_pure ?_)
  dsimp only
  refine wpAny_bind (wpAny_cRoomFor hu ?_)
  refine wpAny_bind (wpAny_mono key (fun v s' z => ?_) fun _ _ e => e)
  obtain ⟨r, rfl, q⟩ := z
  dsimp only
  refine wpAny_bind (wpAny_pure ?_)
  exact wpAny_pure q
theorem isInst_K {M : Model} {Q : Bool → Shared → Prop} {t : Value} {r : Bool} (X : K.In s.heap) (I : PySem.W.InstAt s.heap x ox C od) (hs : PySem.W.subIn K (.ref C) t = some r) (q : Q r s) : wpAny M A (isInstance (.ref x) t) Q E s := by
  unfold isInstance
  refine wpAny_bind (I.type.here ?_)
  exact (PySem.W.looks_subIn X hs).here q
theorem check_ne {M : Model} {Q : Unit → Shared → Prop} (X : K.In s.heap) (I : PySem.W.InstAt s.heap x ox C od) (nf : NeF K C) (q : Q () s) : wpAny M A (checkBuiltinCall "object.__ne__" ⟨[.ref x, b], []⟩) Q E s := by
  have ha := PySem.F.cmpArgs_ne (.ref x) b
  simp only [checkBuiltinCall, PySem.F.cmpKind_ne, PySem.F.cmpSplit_ne]
  refine wpAny_bind ?_
  refine wpAny_bind (I.type.here ?_)
  refine (PySem.W.looks_subIn X nf.sub).here ?_
  simp only [Bool.not_true, Bool.false_eq_true, if_false]
  cases hsig : Manifest.signature? "object.__ne__" with
  | none => exact wpAny_pure q
  | some sig =>
    simp only [argsOk, hsig] at ha
    have h2 : Bind.checkArgs "object.__ne__" sig ⟨[.ref x, b], []⟩ = pure () := ha
    show wpAny M A (Bind.checkArgs "object.__ne__" sig ⟨[.ref x, b], []⟩) Q E _
    rw [h2]
    exact wpAny_pure q
theorem call_ne (hu : A.in1.units < cLine) (X : K.In s.heap) (I : PySem.W.InstAt s.heap x ox C od) (nf : NeF K C) (hs : PySem.W.findIn K (.ref C) "__eq__" = some (some (.ref f))) (hf : PySem.W.isFn K (.ref f) = true) {Q : Value → Shared → Prop}
    (h : wpAny (model prog w) A.in1 (call (.ref f) [.ref x, b]) (fun v s' => ∃ r, v = .bool r ∧ Q (.bool !r) s') E s) : wpAny (model prog w) A (call (.builtin "object.__ne__") [.ref x, b]) Q E s :=
  wpAny_call (codeAny_call_builtin PySem.F.cmp_object.ne.plain PySem.F.cmpEntry_ne (check_ne X I nf (ne_body hu X I hs hf h)))
theorem ifBound_ne {M : Model} {args : List Value} {Q : Option Value → Shared → Prop} (X : K.In s.heap) (I : PySem.W.InstAt s.heap x ox C od) (nf : NeF K C)
    (h : wpAny M A (call (.builtin "object.__ne__") (.ref x :: args)) (fun v => Q (some v)) E s) : wpAny M A (callSpecialIfBound? (.ref x) "__ne__" args) Q E s := by
  simp only [callSpecialIfBound?, bindSpecialIfBound?]
  refine wpAny_holding (wpAny_bind (wpAny_bind (wpAny_bind (I.type.here ((PySem.W.looks_findIn X nf.ne).here ?_)))))
  simp only [PySem.F.cmp_object.ne.bind]
  refine wpAny_bind (wpAny_askSetting (wpAny_ite ?_))
  have fin : wpAny M A (call (.builtin "object.__ne__") ([.ref x] ++ args) >>= fun v => pure (some v)) Q E s := wpAny_bind (wpAny_mono h (fun v s' h' => wpAny_pure h') fun _ _ h' => h')
  split
  · exact wpAny_bind (wpAny_pure (wpAny_pure fin))
  · exact wpAny_tryCatch (wpAny_bind (wpAny_pure (wpAny_pure fin)))
theorem cmp_ne {Q : Value → Shared → Prop} {y : Addr} {oy : Obj} {od' : Option Obj} (hu : A.units < cLine) (hu1 : A.in1.units < cLine) (X : K.In s.heap) (I : PySem.W.InstAt s.heap x ox C od) (I' : PySem.W.InstAt s.heap y oy C od') (nf : NeF K C)
    (hs : PySem.W.findIn K (.ref C) "__eq__" = some (some (.ref f))) (hf : PySem.W.isFn K (.ref f) = true)
    (h : wpAny (model prog w) A.in1 (call (.ref f) [.ref x, .ref y]) (fun v s' => ∃ r, v = .bool r ∧ Q (.bool !r) s') E s) : wpAny (model prog w) A (richCompare .NotEq (.ref x) (.ref y)) Q E s := by
  have one : wpAny (model prog w) A (tryCompare (.ref x) (cmpInfo .NotEq).2.1 (.ref y)) (fun r s' => ∃ v, r = some v ∧ Q v s') E s := by
    unfold tryCompare
    refine wpAny_bind (ifBound_ne X I nf (call_ne hu1 X I nf hs hf (wpAny_mono h (fun v s' z => ?_) fun _ _ e => e)))
    obtain ⟨r, rfl, q⟩ := z
    exact ⟨r, rfl, wpAny_pure ⟨_, rfl, q⟩⟩
  unfold richCompare
  simp only [oneThing_ref]
  refine wpAny_holding (wpAny_bind (wpAny_cRoomFor hu ?_))
  refine wpAny_bind (I.type.here (wpAny_bind (I'.type.here ?_)))
  rw [if_neg (by simp)]
  refine wpAny_bind (wpAny_pure ?_)
  simp only [Bool.false_eq_true, if_false]
  refine wpAny_bind (wpAny_mono one (fun r s' z => ?_) fun _ _ e => e)
  obtain ⟨v, rfl, hq⟩ := z
  exact wpAny_pure hq
end
section
variable {X : Cx} {k j : Nat} {C : Addr} {sp : Sp}
def rNeO (C : Addr) (sp : Sp) : R2 := fun x y H Q => ∃ a b dx fs dy gs, x = .ref a ∧ y = .ref b ∧ H a = some (.ins C dx fs) ∧ H b = some (.ins C dy gs) ∧ sp [.ref a, .ref b] H (fun v H' => ∃ r, v = .bl r ∧ Q (.bl !r) H') C8.E0
theorem op_neO (c : C8.Met X.prog X.w X.K X.mg X.base k C "__eq__" sp []) (nf : NeF X.K C) (hr : Room j X.A) (hk : k + 1 ≤ j) : OpR X (compareOp .NotEq) (rNeO C sp) := by
  intro pins s σ H x y v u Q I rx ry h
  obtain ⟨a, b, dx, fs, dy, gs, rfl, rfl, ha, hb', hsp⟩ := h
  obtain ⟨f, fd, ps, ds, hc, hm, F, bnd, d⟩ := c.ex
  cases d
  cases rx
  cases ry
  obtain ⟨mA, J, _⟩ := ins_get I.hok ha
  obtain ⟨mB, J', _⟩ := ins_get I.hok hb'
  obtain ⟨od, J, _⟩ := J.look
  obtain ⟨od', J', _⟩ := J'.look
  have hr' := (hr.mono hk).in1
  show wpAny (model X.prog X.w) X.A (richCompare .NotEq (.ref a) (.ref b)) (EP X pins σ Q) X.xe s
  refine cmp_ne hr.units0 hr'.units0 I.kIn J J' nf hm.at_ hm.fn ?_
  have hl := F.len _ _ _ _ hsp
  have r2 : Vals [V.ref a, V.ref b] [Value.ref a, Value.ref b] := .cons rfl (.cons rfl .nil)
  have I1 := I.env0.in1
  refine wpAny_call (codeAny_mono (F.run X.A.in1 X.stack s H ⟨[.ref a, .ref b], []⟩ [.ref a, .ref b] [.ref a, .ref b] _ C8.E0 hr' I1 (by
    have := bnd s [.ref a, .ref b] I.kIn (by simpa using hl)
    simpa using this) r2 hsp) fun r s' hq => ?_)
  cases r with
  | error e => exact C8.pass0 (E := C8.E0) pins σ H s e s' I hq
  | ok fl =>
    cases fl with
    | ret w =>
      obtain ⟨z, H', I', rz, r, ez, q⟩ := I.after hq
      subst ez
      cases rz
      exact ⟨r, rfl, .bl !r, H', I', rfl, q⟩
    | next => exact False.elim hq
    | brk => exact False.elim hq
    | cont => exact False.elim hq
end
end CK

set_option Elab.async false
set_option linter.all false
set_option maxRecDepth 100000
set_option maxHeartbeats 4000000
set_option exponentiation.threshold 3000
namespace K59W
open K59 PySem PySem.Spec PyProof.Rows L2 CK
theorem gname_eq (j : Nat) (x : V) (σ : L2.St) (H : Hp) (F : L2.St → Hp → Prop) : gName j x σ H F = F (σ.set j (some x)) H := rfl
theorem tnext_eq (D : Ends) (σ : L2.St) (H : Hp) : tNext D σ H = D.nx σ H := rfl
def isWi (lo hi : Int) : PyData → Bool
  | .int i => decide (lo ≤ i) && decide (i ≤ hi)
  | _ => false
section
variable {P : Program} {w : World} {K : PySem.W.Frag} {mg : Str → Option Value} {base : Heap} {C E_InvalidText E_InvalidNumber E_TooMany E_CountError : Addr}
def sp_is_within (K : PySem.W.Frag) : Sp := fun vs H Q _ => ∃ (lo hi : Int) (v : V) (d : PyData), vs = [v, .int lo, .int hi] ∧ Dp K H v d ∧ Q (.bl (isWi lo hi d)) H
theorem c_is_within (T : Txt K mg C E_InvalidText E_InvalidNumber E_TooMany E_CountError) : C8.Cal P w K mg base 2 "is_within" (sp_is_within K) [] := by
  refine calF T.d_is_within sc_is_within (fun vs H Q E h => ?_) (fun f cdv A outer s H vs Q E hr h => ?_)
  · obtain ⟨_, _, _, _, rfl, _⟩ := h; rfl
  · obtain ⟨lo, hi, v, d, rfl, dv, q⟩ := h
    refine ⟨_, (pss_one (ps_ret (pe_and (C8.pe_c (c_is_whole T) hr (by decide) (by rfl) (pa_cons (pv 0) pa_nil)) (pe_one (pe_chain op_le op_le (pv 1) (pv 0) (pv 2)))))), ?_⟩
    refine ⟨_, rfl, v, d, rfl, dv, _, rfl, ?_⟩
    by_cases e : isInt d = true
    · obtain ⟨i, rfl⟩ := isInt_of e
      cases dv
      rw [if_pos e]
      refine ⟨_, rfl, _, rfl, lo, i, rfl, rfl, _, rfl, ?_⟩
      by_cases c : lo ≤ i
      · rw [decide_eq_true c]
        rw [show isWi lo hi (.int i) = (decide (lo ≤ i) && decide (i ≤ hi)) from rfl, decide_eq_true c, Bool.true_and] at q
        exact ⟨_, rfl, i, hi, rfl, rfl, q⟩
      · rw [decide_eq_false c]
        rw [show isWi lo hi (.int i) = (decide (lo ≤ i) && decide (i ≤ hi)) from rfl, decide_eq_false c, Bool.false_and] at q
        exact q
    · rw [if_neg e]
      cases d <;> first | exact q | exact absurd rfl e
def sp_need_withinD (K : PySem.W.Frag) (E1 : Addr) : Sp := fun vs H Q E => ∃ (lo hi : Int) (v : V) (d : PyData), vs = [v, .int lo, .int hi] ∧ Dp K H v d ∧ ((isWi lo hi d = true ∧ Q .non H) ∨ (isWi lo hi d = false ∧ ∀ H' x, Same H H' → H' x = some (.xd [("value", v)]) → E (.ref E1) (some x) H'))
theorem x_need_within (T : Txt K mg C E_InvalidText E_InvalidNumber E_TooMany E_CountError) : CalX P w K mg base 3 "need_within" (sp_need_withinD K E_InvalidNumber) := by
  refine calX T.d_need_within sc_need_within (fun vs H Q E h => ?_) (fun f cdv A outer s H vs Q E hr h => ?_)
  · obtain ⟨_, _, _, _, rfl, _⟩ := h; rfl
  · obtain ⟨lo, hi, v, d, rfl, dv, q⟩ := h
    refine ⟨_, (pss_one (ps_if (pt_not (pt_val (C8.pe_c (c_is_within T) hr (by decide) (by rfl) (pa_cons (pv 0) (pa_cons (pv 1) (pa_cons (pv 2) pa_nil))))))
    (pss_one (ps_raiseE T.x_InvalidNumber rfl (takes_of rfl rfl rfl rfl) hr (by decide) (by rfl) (pv 0)))
    pss_nil)), ?_⟩
    refine ⟨_, rfl, _, rfl, _, rfl, lo, hi, v, d, rfl, dv, _, rfl, ?_⟩
    rcases q with ⟨e, q⟩ | ⟨e, q⟩
    · rw [e]
      exact iteF q
    · rw [e]
      exact iteT ⟨_, rfl, fun x hx => q _ x (sameNew hx) upd_same⟩
def sp_few (E1 : Addr) : Sp := fun vs H Q E => ∃ (size many : Nat), vs = [.int size, .int many] ∧ size ≤ 1000 ∧ many ≤ 3 ∧ ((size ^ many ≤ 600 ∧ Q .non H) ∨ (600 < size ^ many ∧ ∀ H' x, Same H H' → H' x = some (.xd [("value", .int (size ^ many : Nat))]) → E (.ref E1) (some x) H'))
theorem x_need_few_points (T : Txt K mg C E_InvalidText E_InvalidNumber E_TooMany E_CountError) : CalX P w K mg base 3 "need_few_points" (sp_few E_TooMany) := by
  refine calX T.d_need_few_points sc_need_few_points (fun vs H Q E h => ?_) (fun f cdv A outer s H vs Q E hr h => ?_)
  · obtain ⟨_, _, rfl, _⟩ := h; rfl
  · obtain ⟨size, many, rfl, hs, hm, q⟩ := h
    refine ⟨_, (pss_cons (ps_set (i := 2) sc_need_few_points.nd rfl (Or.inl rfl) pe_int)
    (pss_cons (ps_noxE (ps_for PassesOwn.never rfl (pi_range1 (by rfl) T.m_range (pa_cons (pv 1) pa_nil)) (pg_name (i := 3) sc_need_few_points.nd rfl (Or.inl rfl))
    (pss_one (ps_aug (i := 2) sc_need_few_points.nd rfl (.inl rfl) (pv 0) ip_mul))))
    (pss_one (ps_if (pt_cmpR op_gt (pv 2) (C8.pe_gc (by rfl) T.k_MOST_POINTS) (nomark _))
    (pss_one (ps_raiseE T.x_TooMany rfl (takes_of rfl rfl rfl rfl) hr (by decide) (by rfl) (pv 2)))
    pss_nil)))), ?_⟩
    refine ⟨_, rfl, (many : Int), rfl, by omega, by omega, ?_⟩
    refine for_it walk_range (fun i σ H2 => H2 = H ∧ i ≤ many ∧ ∃ y3 : Option V, σ = [some (.int (size : Nat)), some (.int (many : Nat)), some (.int (size ^ i : Nat)), y3]) ⟨rfl, Nat.zero_le _, none, rfl⟩ (fun _ _ _ _ _ => True.intro) (fun i v σ H2 H3 hi p yy => ?_) fun σ H2 p => ?_
    · obtain ⟨rfl, _, y3, rfl⟩ := p
      obtain ⟨rfl, rfl⟩ := yy
      have hi' : i < many := by omega
      have b : size ^ i < 2 ^ 1000 := Nat.lt_of_le_of_lt (Nat.pow_le_pow_left hs i) (Nat.lt_of_le_of_lt (Nat.pow_le_pow_right (by decide) (show i ≤ 3 by omega)) (by decide))
      have b2 : size < 2 ^ 1000 := Nat.lt_of_le_of_lt hs (by decide)
      exact ⟨_, rfl, _, rfl, size ^ i, size, rfl, rfl, b, b2, rfl, hi', _, by rw [Nat.pow_succ]; rfl⟩
    · obtain ⟨rfl, _, y3, rfl⟩ := p
      rw [Int.toNat_natCast]
      refine ⟨_, rfl, _, _, rfl, rfl, _, rfl, ?_⟩
      rcases q with ⟨e, q⟩ | ⟨e, q⟩
      · rw [decide_eq_false (show ¬(600 : Int) < ((size ^ many : Nat) : Int) by omega)]
        exact iteF q
      · rw [decide_eq_true (show (600 : Int) < ((size ^ many : Nat) : Int) by omega)]
        exact iteT ⟨_, rfl, fun x hx => q _ x (sameNew hx) upd_same⟩
end
end K59W

set_option Elab.async false
set_option linter.all false
set_option maxRecDepth 100000
set_option maxHeartbeats 4000000
set_option exponentiation.threshold 3000
namespace K59
open K59 PySem PySem.Spec PyProof.Rows L2 CK SX NM
open K59W (gname_eq tnext_eq isWi x_need_within x_need_few_points)
/-! ### the points of a box -/
def bstep (N : Nat) (pts : List (List Nat)) : List (List Nat) := pts.flatMap fun pt => (List.range (N + 1)).map fun k => pt ++ [k]
def box : Nat → Nat → List (List Nat)
  | 0, _ => [[]]
  | m + 1, N => bstep N (box m N)
theorem mem_box {N : Nat} : ∀ {m : Nat} {pt : List Nat}, pt ∈ box m N ↔ pt.length = m ∧ ∀ x ∈ pt, x ≤ N
  | 0, pt => by
    show pt ∈ [[]] ↔ _
    rw [List.mem_singleton]
    constructor
    · rintro rfl
      exact ⟨rfl, fun x h => nomatch h⟩
    · exact fun h => List.length_eq_zero_iff.mp h.1
  | m + 1, pt => by
    show pt ∈ bstep N (box m N) ↔ _
    unfold bstep
    rw [List.mem_flatMap]
    constructor
    · rintro ⟨q, hq, h⟩
      obtain ⟨k, hk, rfl⟩ := List.mem_map.mp h
      obtain ⟨l1, l2⟩ := mem_box.mp hq
      refine ⟨by rw [List.length_append, l1]; rfl, fun x hx => ?_⟩
      rcases List.mem_append.mp hx with z | z
      · exact l2 x z
      · rw [List.mem_singleton.mp z]
        have := List.mem_range.mp hk
        omega
    · rintro ⟨l, b⟩
      have ne : pt ≠ [] := fun e => by rw [e] at l; cases l
      refine ⟨pt.dropLast, mem_box.mpr ⟨by rw [List.length_dropLast, l]; rfl, fun x hx => b x (List.dropLast_subset _ hx)⟩, List.mem_map.mpr ⟨pt.getLast ne, List.mem_range.mpr ?_, List.dropLast_concat_getLast ne⟩⟩
      have := b _ (List.getLast_mem ne)
      omega
theorem len_bstep (N : Nat) : ∀ pts : List (List Nat), (bstep N pts).length = pts.length * (N + 1)
  | [] => by simp [bstep]
  | p :: r => by
    have ih := len_bstep N r
    unfold bstep at ih ⊢
    rw [List.flatMap_cons, List.length_append, ih, List.length_map, List.length_range, List.length_cons, Nat.succ_mul]
    omega
theorem len_box (N : Nat) : ∀ m : Nat, (box m N).length = (N + 1) ^ m
  | 0 => rfl
  | m + 1 => by
    show (bstep N (box m N)).length = _
    rw [len_bstep, len_box N m, Nat.pow_succ]
/-- lists of numbers in the heap -/
inductive Pq (H : Hp) : List V → List (List Nat) → Prop
  | nil : Pq H [] []
  | cons {l : Addr} {pt : List Nat} {vs : List V} {ps : List (List Nat)} : LP H l pt → Pq H vs ps → Pq H (.ref l :: vs) (pt :: ps)
theorem Pq.same {H H' : Hp} {vs : List V} {ps : List (List Nat)} (h : Pq H vs ps) (s : Same H H') : Pq H' vs ps := by
  induction h with
  | nil => exact .nil
  | cons p _ ih => exact .cons (s _ _ p) ih
theorem Pq.len {H : Hp} {vs : List V} {ps : List (List Nat)} (h : Pq H vs ps) : vs.length = ps.length := by
  induction h with
  | nil => rfl
  | cons _ _ ih => simp [ih]
theorem Pq.app {H : Hp} {vs us : List V} {ps qs : List (List Nat)} (h : Pq H vs ps) (g : Pq H us qs) : Pq H (vs ++ us) (ps ++ qs) := by
  induction h with
  | nil => exact g
  | cons p _ ih => exact .cons p ih
theorem Pq.upd {H : Hp} {D : Addr} {o : HO} {vs : List V} {ps : List (List Nat)} (h : Pq H vs ps) (ne : ∀ l, V.ref l ∈ vs → l ≠ D) : Pq (L2.upd H D o) vs ps := by
  induction h with
  | nil => exact .nil
  | cons p _ ih => exact .cons (show L2.upd H D o _ = _ by rw [upd_ne (ne _ List.mem_cons_self)]; exact p) (ih fun l hl => ne l (List.mem_cons_of_mem _ hl))
theorem Pq.get {H : Hp} {vs : List V} {ps : List (List Nat)} (h : Pq H vs ps) {i : Nat} {v : V} (hi : vs[i]? = some v) : ∃ l pt, v = .ref l ∧ ps[i]? = some pt ∧ LP H l pt := by
  induction h generalizing i with
  | nil => simp at hi
  | cons e _ ih =>
    cases i with
    | zero => cases hi; exact ⟨_, _, rfl, rfl, e⟩
    | succ i => exact ih hi
def PqL (H : Hp) (l : Addr) (ps : List (List Nat)) : Prop := ∃ vs, H l = some (.lst vs) ∧ Pq H vs ps
theorem PqL.same {H H' : Hp} {l : Addr} {ps : List (List Nat)} (h : PqL H l ps) (s : Same H H') : PqL H' l ps := by
  obtain ⟨vs, e, k⟩ := h
  exact ⟨vs, s _ _ e, k.same s⟩
theorem take_bstep {N i : Nat} {pts : List (List Nat)} {pt : List Nat} (h : pts[i]? = some pt) : bstep N (pts.take (i + 1)) = bstep N (pts.take i) ++ (List.range (N + 1)).map fun k => pt ++ [k] := by
  unfold bstep
  rw [List.take_succ, h, List.flatMap_append]
  simp
section
variable {P : Program} {w : World} {K : PySem.W.Frag} {mg : Str → Option Value} {base : Heap} {C E_InvalidText E_InvalidNumber E_TooMany E_CountError : Addr}
def sp_points_below : Sp := fun vs H Q _ => ∃ (b : Addr) (m N : Nat), vs = [.ref b] ∧ H b = some (.lst (natsV (List.replicate m (N + 1)))) ∧ m ≤ 3 ∧ N ≤ 100 ∧ (N + 1) ^ m ≤ 10000 ∧ ∀ D H', Same H H' → PqL H' D (box m N) → Q (.ref D) H'
theorem c_points_below (T : Txt K mg C E_InvalidText E_InvalidNumber E_TooMany E_CountError) : C8.Cal P w K mg base 1 "points_below" sp_points_below [] := by
  refine calF T.d_points_below sc_points_below (fun vs H Q E h => ?_) (fun f cdv A outer s H vs Q E hr h => ?_)
  · obtain ⟨_, _, _, rfl, _⟩ := h; rfl
  · obtain ⟨b, m, N, rfl, hb, m3, hN, big, q⟩ := h
    refine ⟨_, (pss_cons (ps_set (i := 1) sc_points_below.nd rfl (Or.inl rfl) (pe_lst (pa_cons (pe_lst pa_nil) pa_nil)))
    (pss_cons (ps_for PassesOwn.never rfl (pi_list (pv 0)) (pg_name (i := 2) sc_points_below.nd rfl (Or.inr rfl))
    (pss_one (ps_setLc2 (i := 1) (own := [("point", 3), ("count", 4)]) (vs1 := [4]) rfl sc_points_below.nd rfl rfl (sw_true rfl rfl rfl (by decide +kernel)) (pi_list (pv 1)) (blkOk_by (N := ["bounds", "points", "bound", "point", "count"]) (sc := C8.fnScope (topS 52)) (own := [("point", 3), ("count", 4)]) (by decide +kernel)) (by decide) (fun _ _ _ _ _ => (pg_name (i := 3) sc_points_below.nd rfl (Or.inl rfl))) (fun _ _ _ _ _ => pts_nil) (fun _ _ _ _ _ => (pi_range1 (by rfl) T.m_range (pa_cons (pv 2) pa_nil))) (fun _ _ _ _ _ => (pg_name (i := 4) sc_points_below.nd rfl (Or.inl rfl))) (fun _ _ _ _ _ => pts_nil) (fun _ _ _ _ _ => (pe_op op_cat (pv 3) (pe_lst (pa_cons (pv 4) pa_nil)))))))
    (pss_one (ps_ret (pv 1))))), ?_⟩
    refine ⟨by show 0 ≤ sizeLine; decide, fun l0 n0 => ⟨by show 1 ≤ sizeLine; decide, fun D0 nD0 => ?_⟩⟩
    have s0 := sameNew (o := .lst []) n0
    have h0 : upd H l0 (.lst []) l0 = some (.lst (natsV [])) := upd_same
    generalize upd H l0 (.lst []) = H0 at s0 h0 nD0 ⊢
    have s1 := sameNew (o := .lst [.ref l0]) nD0
    have h1 : PqL (upd H0 D0 (.lst [.ref l0])) D0 (box 0 N) := ⟨_, upd_same, .cons (s1 _ _ h0) .nil⟩
    generalize upd H0 D0 (.lst [.ref l0]) = H1 at s1 h1 ⊢
    have s01 := s0.trans s1
    have lb : (natsV (List.replicate m (N + 1))).length = m := by rw [natsV_len, List.length_replicate]
    refine ⟨_, rfl, b, rfl, ⟨_, .inl (.inl (s01 _ _ hb))⟩, for_list (K := K) (D := { nx := _, rt := Q, bk := fun _ _ => False, ct := fun _ _ => False }) (a := b) (xs := natsV (List.replicate m (N + 1))) (fun i σ HH => Same H1 HH ∧ i ≤ m ∧ ∃ (D : Addr) (y2 : Option V), σ = [some (.ref b), some (.ref D), y2, none, none] ∧ PqL HH D (box i N))
      ⟨.refl _, Nat.zero_le _, D0, none, rfl, h1⟩ (fun i σ HH _ p => .inl (.inl (p.1 _ _ (s01 _ _ hb)))) (fun i v σ HH hi p => ?_) fun σ HH p => ?_⟩
    · obtain ⟨sH, _, D, y2, rfl, vs, hvs, pvs⟩ := p
      have im : i < m := by rw [← lb]; exact (List.getElem?_eq_some_iff.mp hi).1
      have ev : v = .int ((N + 1 : Nat) : Int) := by
        obtain ⟨n, mn, _, rfl⟩ := get_nat hi
        rw [List.eq_of_mem_replicate mn]
      subst ev
      have lvs := pvs.len
      have bigI : (N + 1) ^ (i + 1) ≤ 10000 := Nat.le_trans (Nat.pow_le_pow_right (by omega) (show i + 1 ≤ m by omega)) big
      have lbx := len_box N (i + 1)
      rw [show box (i + 1) N = bstep N (box i N) from rfl] at lbx
      rw [gname_eq]
      refine ⟨_, rfl, D, rfl, ⟨_, .inl (.inl hvs)⟩, fun Dn hDn => ?_⟩
      refine lc2_list (K := K) (a := D) (xs := vs) (fun ii HB => Same HH HB ∧ ∃ ws, HB Dn = some (.lst ws) ∧ Pq HB ws (bstep N ((box i N).take ii)) ∧ ∀ l, V.ref l ∈ ws → l ≠ Dn) ⟨sameNew hDn, [], upd_same, .nil, fun v hv => (by cases hv)⟩ (fun ii HB _ p => .inl (.inl (p.1 _ _ hvs))) (fun ii v HB hv p => ?_) fun HB p => ?_
      · obtain ⟨sB, ws, hws, pws, far⟩ := p
        obtain ⟨l, pt, rfl, hpt, hlp⟩ := pvs.get hv
        rw [take_bstep hpt]
        have lle : (bstep N ((box i N).take (ii + 1))).length ≤ 10000 := by
          rw [len_bstep, List.length_take]
          rw [len_bstep] at lbx
          exact Nat.le_trans (Nat.mul_le_mul_right _ (Nat.min_le_right _ _)) (by omega)
        rw [take_bstep hpt, List.length_append, List.length_map, List.length_range] at lle
        refine ⟨rfl, yes_if ?_⟩
        refine ⟨_, rfl, _, rfl, by omega, by omega, ?_⟩
        rw [Int.toNat_natCast]
        refine in_range (fun jj HC => Same HH HC ∧ ∃ ws, HC Dn = some (.lst ws) ∧ Pq HC ws (bstep N ((box i N).take ii) ++ (List.range jj).map fun k => pt ++ [k]) ∧ ∀ l, V.ref l ∈ ws → l ≠ Dn) ⟨sB, ws, hws, by simpa using pws, far⟩ (fun jj HC hj p => ?_) fun HC p => p
        obtain ⟨sC, ws, hws, pws, far⟩ := p
        have hlC : HC l = some (.lst (natsV pt)) := sC _ _ hlp
        have lws := pws.len
        rw [List.length_append, List.length_map, List.length_range] at lws
        refine ⟨rfl, yes_if ?_⟩
        refine ⟨_, rfl, _, rfl, by show 1 ≤ sizeLine; decide, fun l1 n1' => ?_⟩
        have st1 := sameNew (o := .lst [.int (0 + (jj : Int))]) n1'
        have lpt : pt.length = i := (mem_box.mp (List.mem_of_getElem? hpt)).1
        refine ⟨l, l1, _, _, rfl, rfl, st1 _ _ hlC, upd_same, by rw [natsV_len, sizeLine_eq]; simp; omega, fun l2 n2' => ?_⟩
        have st2 := sameNew (o := .lst (natsV pt ++ [.int (0 + (jj : Int))])) n2'
        have sE := st1.trans st2
        have hwE := sE _ _ hws
        have l2D : l2 ≠ Dn := fun z => by rw [z, st1 _ _ hws] at n2'; cases n2'
        have e2 : natsV pt ++ [V.int (0 + (jj : Int))] = natsV (pt ++ [jj]) := by
          unfold natsV
          rw [List.map_append, Int.zero_add]
          rfl
        have hl2 := upd_same (H := upd HC l1 (.lst [.int (0 + (jj : Int))])) (a := l2) (o := .lst (natsV pt ++ [.int (0 + (jj : Int))]))
        refine ⟨ws, hwE, by rw [lws, sizeLine_eq]; omega, same_upd2 hDn (sC.trans sE), _, upd_same, ?_, fun k hk => ?_⟩
        · rw [List.range_succ, List.map_append, ← List.append_assoc]
          exact ((pws.same sE).upd fun l hl => far l hl).app (.cons (show L2.upd _ Dn _ l2 = some (.lst (natsV (pt ++ [jj]))) by rw [upd_ne l2D, ← e2]; exact hl2) .nil)
        · rcases List.mem_append.mp hk with y | y
          · exact far k y
          · cases List.mem_singleton.mp y
            exact l2D
      · obtain ⟨sB, ws, hws, pws, far⟩ := p
        rw [lvs, List.take_length] at pws
        exact ⟨sH.trans sB, im, Dn, _, rfl, ws, hws, pws⟩
    · obtain ⟨sH, _, D, y2, rfl, hD⟩ := p
      rw [lb] at hD
      exact ⟨_, rfl, q D HH (s01.trans sH) hD⟩
end
end K59

set_option Elab.async false
set_option linter.all false
set_option maxRecDepth 100000
set_option maxHeartbeats 8000000
set_option exponentiation.threshold 3000
namespace K59
open K59 PySem PySem.Spec PyProof.Rows L2 CK SX NM
open K59W (gname_eq tnext_eq isWi x_need_within x_need_few_points)
/-! ### words as the keys of a dict -/
def Ks (kvs : List (Key × V)) (ks : List (List Nat)) : Prop := kvs.map (·.1) = ks.map (fun z => (Sum.inr (S z) : Key)) ∧ ks.Nodup
theorem Ks.nil : Ks [] [] := ⟨rfl, List.nodup_nil⟩
theorem Ks.len {kvs : List (Key × V)} {ks : List (List Nat)} (h : Ks kvs ks) : kvs.length = ks.length := by
  have := congrArg List.length h.1
  rwa [List.length_map, List.length_map] at this
theorem Ks.any {kvs : List (Key × V)} {ks : List (List Nat)} (h : Ks kvs ks) (z : List Nat) : (kvs.any fun kv => decide (kv.1 = (Sum.inr (S z) : Key))) = decide (z ∈ ks) := by
  have e : (kvs.any fun kv => decide (kv.1 = (Sum.inr (S z) : Key))) = ((kvs.map (·.1)).any fun k => decide (k = (Sum.inr (S z) : Key))) := by rw [List.any_map]; rfl
  rw [e, h.1, List.any_map, Bool.eq_iff_iff, List.any_eq_true, decide_eq_true_iff]
  constructor
  · rintro ⟨y, hy, e⟩
    have e := of_decide_eq_true (p := (Sum.inr (S y) : Key) = Sum.inr (S z)) e
    rw [← S_inj (Sum.inr.inj e)]
    exact hy
  · exact fun hz => ⟨z, hz, decide_eq_true (p := (Sum.inr (S z) : Key) = Sum.inr (S z)) rfl⟩
theorem Ks.get {kvs : List (Key × V)} {ks : List (List Nat)} (h : Ks kvs ks) (z : List Nat) : (valV kvs (Sum.inr (S z))).isSome = decide (z ∈ ks) := by rw [← valV_any, h.any]
theorem Ks.put {kvs : List (Key × V)} {ks : List (List Nat)} (h : Ks kvs ks) (z : List Nat) (v : V) : ∃ ls, Ks (putK kvs (Sum.inr (S z)) v) ls ∧ (∀ y, y ∈ ls ↔ y ∈ ks ∨ y = z) ∧ ls.length ≤ ks.length + 1 := by
  unfold putK
  rw [h.any]
  by_cases e : z ∈ ks
  · rw [if_pos (decide_eq_true e)]
    refine ⟨ks, ⟨?_, h.2⟩, fun y => ⟨.inl, fun x => x.elim id fun x => x ▸ e⟩, by omega⟩
    rw [List.map_map, ← h.1]
    refine List.map_congr_left fun kv _ => ?_
    show (if kv.1 = _ then (kv.1, v) else kv).1 = kv.1
    split <;> rfl
  · rw [if_neg (fun x => e (of_decide_eq_true x))]
    refine ⟨ks ++ [z], ⟨by rw [List.map_append, List.map_append, h.1]; rfl, ?_⟩, fun y => by rw [List.mem_append, List.mem_singleton], by simp⟩
    rw [List.nodup_append]
    exact ⟨h.2, by simp, fun a ha b hb x => e (by rw [List.mem_singleton.mp hb] at x; rw [← x]; exact ha)⟩
def Kd (H : Hp) (D : Addr) (ks : List (List Nat)) : Prop := ∃ kvs, H D = some (.dK kvs) ∧ Ks kvs ks
theorem Kd.same {H H' : Hp} {D : Addr} {ks : List (List Nat)} (h : Kd H D ks) (s : Same H H') : Kd H' D ks := by
  obtain ⟨kvs, e, k⟩ := h
  exact ⟨kvs, s _ _ e, k⟩
theorem Ks.merge : ∀ {more kvs : List (Key × V)} {ls ks : List (List Nat)}, Ks more ls → Ks kvs ks → ∃ ms, Ks (mergeK kvs more) ms ∧ (∀ y, y ∈ ms ↔ y ∈ ks ∨ y ∈ ls) ∧ ms.length ≤ ks.length + ls.length
  | [], kvs, [], ks, _, h => ⟨ks, h, fun y => by simp, by simp⟩
  | [], _, _ :: _, _, h, _ => by cases h.1
  | _ :: _, _, [], _, h, _ => by cases h.1
  | (k, v) :: more, kvs, l :: ls, ks, h, g => by
    obtain ⟨h1, h2⟩ := h
    rw [List.map_cons, List.map_cons] at h1
    obtain ⟨e1, e2⟩ := List.cons.inj h1
    have e1 : k = Sum.inr (S l) := e1
    subst e1
    obtain ⟨n1, n2⟩ := List.nodup_cons.mp h2
    obtain ⟨js, k1, k2, k3⟩ := g.put l v
    obtain ⟨ms, m1, m2, m3⟩ := Ks.merge (more := more) (ls := ls) ⟨e2, n2⟩ k1
    refine ⟨ms, m1, fun y => ?_, by rw [List.length_cons]; omega⟩
    rw [m2, k2, List.mem_cons]
    constructor
    · rintro ((h | h) | h)
      · exact .inl h
      · exact .inr (.inl h)
      · exact .inr (.inr h)
    · rintro (h | h | h)
      · exact .inl (.inl h)
      · exact .inl (.inr h)
      · exact .inr h
/-- a text within bounds -/
structure Tx (m : Nat) (ps : List Pn) : Prop where
  len : LenF m ps
  ne : ∀ p ∈ ps, p.1 ≠ []
  tot : (ps.map fun p => p.1.length).sum ≤ 300
def capP (n : Nat) (xs : List (List Nat × Nat)) : List (List Nat × Nat) := xs.map fun p => (p.1, min p.2 ((n - 1) / p.1.length + 2))
theorem cap_len {n : Nat} (n40 : n ≤ 40) : ∀ xs : List (List Nat × Nat), (∀ p ∈ xs, p.1 ≠ []) → (PM.wrN (capP n xs)).length ≤ 41 * (xs.map fun p => p.1.length).sum
  | [], _ => Nat.zero_le _
  | p :: r, h => by
    have ih := cap_len n40 r fun q hq => h q (List.mem_cons_of_mem _ hq)
    have p0 := List.length_pos_iff.mpr (h p List.mem_cons_self)
    show (PM.wrN ((p.1, min p.2 ((n - 1) / p.1.length + 2)) :: capP n r)).length ≤ _
    rw [PM.wrN_cons, List.length_append, List.map_cons, List.sum_cons]
    have e : (WM.pw p.1 (min p.2 ((n - 1) / p.1.length + 2))).length = p.1.length * min p.2 ((n - 1) / p.1.length + 2) := WM.pw_len _ _
    have b1 : p.1.length * min p.2 ((n - 1) / p.1.length + 2) ≤ p.1.length * ((n - 1) / p.1.length + 2) := Nat.mul_le_mul_left _ (Nat.min_le_right _ _)
    have b2 : p.1.length * ((n - 1) / p.1.length) ≤ n - 1 := Nat.mul_div_le _ _
    rw [Nat.mul_add] at b1
    dsimp only at e ⊢
    omega
theorem few_le : ∀ ps : List Pn, (∀ p ∈ ps, p.1 ≠ []) → ps.length ≤ (ps.map fun p => p.1.length).sum
  | [], _ => Nat.le_refl _
  | p :: r, h => by
    have ih := few_le r fun q hq => h q (List.mem_cons_of_mem _ hq)
    have p0 := List.length_pos_iff.mpr (h p List.mem_cons_self)
    rw [List.map_cons, List.sum_cons, List.length_cons]
    omega
theorem one_le {p : Pn} : ∀ {ps : List Pn}, p ∈ ps → p.1.length ≤ (ps.map fun p => p.1.length).sum
  | q :: r, h => by
    rw [List.map_cons, List.sum_cons]
    rcases List.mem_cons.mp h with rfl | h
    · omega
    · have := one_le h
      omega
section
variable {P : Program} {w : World} {K : PySem.W.Frag} {mg : Str → Option Value} {base : Heap} {C E_InvalidText E_InvalidNumber E_TooMany E_CountError : Addr}
def sp_parts_at (C : Addr) : Sp := fun vs H Q _ => ∃ (a pa : Addr) (m n : Nat) (ps : List Pn) (pt : List Nat), vs = [.ref a, .int n, .ref pa] ∧ OT C H a m ps ∧ Tx m ps ∧ LP H pa pt ∧ pt.length = m ∧ m ≤ 3 ∧ Bf pt ∧ 1 ≤ n ∧ n ≤ 40 ∧ ∀ D H' ks, Same H H' → H D = none → Kd H' D ks → ks.length ≤ 12400 → (∀ z, z ∈ ks ↔ PM.Pt n (wr pt ps) z) → Q (.ref D) H'
theorem c_parts_at (T : Txt K mg C E_InvalidText E_InvalidNumber E_TooMany E_CountError) : C8.Cal P w K mg base 4 "parts_at" (sp_parts_at C) [] := by
  refine calF T.d_parts_at sc_parts_at (fun vs H Q E h => ?_) (fun f cdv A outer s H vs Q E hr h => ?_)
  · obtain ⟨_, _, _, _, _, _, rfl, _⟩ := h; rfl
  · obtain ⟨a, pa, m, n, ps, pt, rfl, oa, tx, hpa, lpt, m3, bp, n1, n40, q⟩ := h
    refine ⟨_, (pss_cons (ps_set (i := 3) sc_parts_at.nd rfl (Or.inl rfl) (C8.pe_c (c_counted T) hr (by decide) (by rfl) (pa_cons (pv 0) (pa_cons (pv 2) pa_nil))))
    (pss_cons (ps_set (i := 4) sc_parts_at.nd rfl (Or.inr rfl) (pe_join pe_str (pe_lc (own := [("own", 5), ("times", 6)]) (by rfl) sc_parts_at.nd (pi_list (pv 3)) (blkOk_by (N := ["text", "number", "point", "pieces", "word", "own", "times", "at"]) (sc := C8.fnScope (topS 54)) (own := [("own", 5), ("times", 6)]) (by decide +kernel)) (fun _ _ _ _ _ => (pg_two (K := K) (i := 5) (j := 6) rfl rfl sc_parts_at.nd rfl rfl (Or.inl rfl) (Or.inl rfl))) (fun _ _ _ _ _ => pts_nil) (fun _ _ _ _ _ => (pe_op op_repS (pv 5) (pe_callB (call_min2 rfl) (by rfl) T.m_min (by decide +kernel) (pa_cons (pv 6) (pa_cons (pe_op op_add (pe_op op_fdivW (pe_op op_sub (pv 1) pe_int) (pe_callB call_len_str (by rfl) T.m_len (by decide +kernel) (pa_cons (pv 5) pa_nil))) pe_int) pa_nil))))))))
    (pss_one (ps_ret (pe_dc (own := [("at", 7)]) (by rfl) sc_parts_at.nd (pi_range1 (by rfl) T.m_range (pa_cons (pe_op op_add (pe_op op_sub (pe_callB call_len_str (by rfl) T.m_len (by decide +kernel) (pa_cons (pv 4) pa_nil)) (pv 1)) pe_int) pa_nil)) (blkOk_by (N := ["text", "number", "point", "pieces", "word", "own", "times", "at"]) (sc := C8.fnScope (topS 54)) (own := [("at", 7)]) (by decide +kernel)) (fun _ _ _ _ _ => (pg_name (i := 7) sc_parts_at.nd rfl (Or.inl rfl))) (fun _ _ _ _ _ => pts_nil) (fun _ _ _ _ _ => (pe_slice C8.sl_txt (pv 4) (po_some (pv 7)) (po_some (pe_op op_add (pv 7) (pv 1))))) (fun _ _ _ _ _ => pe_bl)))))), ?_⟩
    refine ⟨_, rfl, _, rfl, a, pa, m, ps, pt, rfl, oa, hpa, lpt, m3, bp, fun L us H1 s1 hus pus => ?_⟩
    have lu := pus.len
    rw [List.length_map] at lu
    have few := few_le ps tx.ne
    have tot := tx.tot
    dsimp only
    rw [gname_eq]
    refine ⟨⟨_, rfl⟩, _, rfl, L, rfl, ⟨_, .inl (.inl hus)⟩, fun D hD => ?_⟩
    refine lc_list (K := K) (a := L) (xs := us) (fun i H2 => Same H1 H2 ∧ H2 D = some (.lst ((capP n ((PM.valsP ps pt).take i)).map fun p => V.str (S (WM.pw p.1 p.2))))) ⟨sameNew hD, upd_same⟩ (fun i H2 _ p => .inl (.inl (p.1 _ _ hus))) (fun i y H2 hi p => ?_) fun H2 p => ?_
    · obtain ⟨s2, hws⟩ := p
      obtain ⟨b, z, k, rfl, hx, e1⟩ := (pus.mono (tup_same s2)).get hi
      have hx' : (PM.valsP ps pt)[i]? = some (z, k) := hx
      obtain ⟨p, mp, ep⟩ := List.mem_map.mp (List.mem_of_getElem? hx)
      have zl : z.length ≤ 300 := by
        have := one_le mp
        rw [← show p.1 = z from congrArg Prod.fst ep]
        omega
      have z0 : 0 < z.length := by
        rw [← show p.1 = z from congrArg Prod.fst ep]
        exact List.length_pos_iff.mpr (tx.ne p mp)
      have il : i < us.length := (List.getElem?_eq_some_iff.mp hi).1
      have dl : (n - 1) / z.length ≤ n - 1 := Nat.div_le_self _ _
      refine ⟨b, _, rfl, .inl (.inl e1), rfl, _, _, rfl, _, _, rfl, rfl, rfl, yes_if ?_⟩
      have cd : CDivW ((n : Int) - 1) ((z.length : Nat) : Int) := wide_div (b := 100) (by omega) (by rw [Int.natAbs_natCast]; exact Nat.lt_of_le_of_lt zl (by decide)) (by decide) (by decide)
      have ed : ((n : Int) - 1) / ((z.length : Nat) : Int) = (((n - 1) / z.length : Nat) : Int) := by
        rw [show (n : Int) - 1 = ((n - 1 : Nat) : Int) by omega]
        rfl
      have em : (if ((n : Int) - 1) / ((z.length : Nat) : Int) + 2 < ((k : Nat) : Int) then ((n : Int) - 1) / ((z.length : Nat) : Int) + 2 else ((k : Nat) : Int)) = ((min k ((n - 1) / z.length + 2) : Nat) : Int) := by
        rw [ed]
        generalize (n - 1) / z.length = e
        by_cases c : ((e : Nat) : Int) + 2 < ((k : Nat) : Int)
        · rw [if_pos c, Nat.min_eq_right (by omega)]; rfl
        · rw [if_neg c, Nat.min_eq_left (by omega)]
      refine ⟨_, rfl, _, rfl, _, rfl, _, _, rfl, rfl, _, rfl, S z, rfl, len_line (by omega), _, _, rfl, rfl, by rw [S_len]; exact cd, _, _, rfl, rfl, k, _, rfl, z, min k ((n - 1) / z.length + 2), rfl, ?_, ?_, by omega, _, hws, ?_, same_upd2 hD s2, ?_⟩
      · rw [S_len]
        exact congrArg V.int em
      · have := Nat.min_le_right k ((n - 1) / z.length + 2)
        omega
      · unfold capP
        rw [List.length_map, List.length_map, List.length_take, sizeLine_eq]
        omega
      · rw [upd_same, List.take_succ, hx']
        unfold capP
        rw [List.map_append, List.map_append]
        rfl
    · obtain ⟨s2, hws⟩ := p
      have lvp : (PM.valsP ps pt).length = us.length := by rw [lu]; exact List.length_map _
      rw [← lvp, List.take_length] at hws
      have cl := cap_len n40 (PM.valsP ps pt) fun p hp => by
        obtain ⟨q, mq, rfl⟩ := List.mem_map.mp hp
        exact tx.ne q mq
      have es : ((PM.valsP ps pt).map fun p => p.1.length) = ps.map fun p => p.1.length := by
        unfold PM.valsP
        rw [List.map_map]
        rfl
      rw [es] at cl
      have eW : PM.wrN (capP n (PM.valsP ps pt)) = ((capP n (PM.valsP ps pt)).map fun p => WM.pw p.1 p.2).flatten := rfl
      have ePt := fun z => PM.parts_prog (n := n) ps pt z
      rw [show ((PM.valsP ps pt).map fun p => (p.1, min p.2 ((n - 1) / p.1.length + 2))) = capP n (PM.valsP ps pt) from rfl] at ePt
      refine ⟨_, D, ((capP n (PM.valsP ps pt)).map fun p => WM.pw p.1 p.2).map S, rfl, rfl, .inl (.inl (.inl (by rw [hws]; simp only [List.map_map]; rfl))), ?_, ?_⟩
      · rw [len_flatS, len_empty, ← eW, Nat.mul_zero]
        omega
      · rw [join_flat, ← eW]
        generalize PM.wrN (capP n (PM.valsP ps pt)) = wd at cl ePt
        rw [gname_eq]
        refine ⟨_, rfl, S wd, rfl, len_line (by omega), _, rfl, _, _, rfl, rfl, _, _, rfl, rfl, _, rfl, by rw [S_len]; omega, by rw [S_len]; omega, fun Dk hDk => ?_⟩
        have sk := sameNew (o := .dK []) hDk
        refine dc_range (fun i HB => Same H2 HB ∧ ∃ ks, Kd HB Dk ks ∧ ks.length ≤ i ∧ ∀ z, z ∈ ks ↔ ∃ j, j < i ∧ z = (wd.drop j).take n) ⟨sk, [], ⟨[], upd_same, .nil⟩, Nat.le_refl _, fun z => by simp⟩ (fun i HB hi p => ?_) fun HB p => ?_
        · obtain ⟨sB, ks, ⟨kvs, hks, kks⟩, lks, mem⟩ := p
          have hi : i + n ≤ wd.length := by rw [S_len] at hi; omega
          have w12 : wd.length ≤ 12300 := by omega
          refine ⟨rfl, yes_if ?_⟩
          refine ⟨_, rfl, _, rfl, ((i : Nat) : Int), congrArg V.int (Int.zero_add _), _, rfl, _, rfl, ((i : Nat) : Int), ((n : Nat) : Int), congrArg V.int (Int.zero_add _), rfl, ((i + n : Nat) : Int), congrArg V.int (by omega), S wd, rfl, len_line (by omega), ?_⟩
          dsimp only
          rw [slice_mid (by omega) hi, show i + n - i = n by omega]
          obtain ⟨ls, k1, k2, k3⟩ := kks.put ((wd.drop i).take n) (.bl true)
          refine ⟨kvs, Sum.inr (S ((wd.drop i).take n)), rfl, hks, by have := kks.len; rw [sizeLine_eq]; omega, same_upd2 hDk sB, ls, ⟨_, upd_same, k1⟩, by omega, fun z => ?_⟩
          rw [k2, mem]
          constructor
          · rintro (⟨j, hj, e⟩ | e)
            · exact ⟨j, by omega, e⟩
            · exact ⟨i, by omega, e⟩
          · rintro ⟨j, hj, e⟩
            by_cases c : j = i
            · exact .inr (c ▸ e)
            · exact .inl ⟨j, by omega, e⟩
        · obtain ⟨sB, ks, kd, lks, mem⟩ := p
          rw [S_len] at lks mem
          refine q Dk HB ks ((s1.trans s2).trans sB) ((s1.trans s2).free hDk) kd (by omega) fun z => ?_
          rw [← ePt, mem]
          constructor
          · rintro ⟨j, hj, e⟩
            exact ⟨j, by omega, e⟩
          · rintro ⟨j, hj, e⟩
            exact ⟨j, by omega, e⟩
end
end K59

set_option Elab.async false
set_option linter.all false
set_option maxRecDepth 100000
set_option maxHeartbeats 8000000
set_option exponentiation.threshold 3000
namespace K59
open K59 PySem PySem.Spec PyProof.Rows L2 CK SX NM
open K59W (gname_eq tnext_eq isWi x_need_within x_need_few_points)
theorem leS_S (a b : List Nat) : leS (S a) (S b) = leW a b := rfl
theorem sort_S1 (ks : List (List Nat)) : (ks.map S).mergeSort leS = (ks.mergeSort leW).map S := (PySem.W.sort_maps S fun a _ b _ => (leS_S a b).symm).symm
/-- as it is told: sorted, each once -/
def Told (zs : List (List Nat)) (Pz : List Nat → Prop) : Prop := zs.Nodup ∧ zs.Pairwise (fun a b => leW a b = true) ∧ ∀ z, z ∈ zs ↔ Pz z
theorem Told.one {zs ys : List (List Nat)} {Pz : List Nat → Prop} (h : Told zs Pz) (h' : Told ys Pz) : zs = ys :=
  List.Perm.eq_of_pairwise (fun _ _ _ _ x y => List.le_antisymm (of_decide_eq_true x) (of_decide_eq_true y)) h.2.1 h'.2.1 (perm_of_mem h.1 h'.1 fun z => (h.2.2 z).trans (h'.2.2 z).symm)
theorem told_sort {ks : List (List Nat)} {Pz : List Nat → Prop} (n : ks.Nodup) (h : ∀ z, z ∈ ks ↔ Pz z) : Told (ks.mergeSort leW) Pz :=
  ⟨(List.mergeSort_perm _ _).symm.nodup n, List.pairwise_mergeSort (fun a b c h1 h2 => total_leW.1 a b c h1 h2) (fun a b => by rcases total_leW.2 a b with h | h <;> simp [h]) _, fun z => by rw [(List.mergeSort_perm ks leW).mem_iff]; exact h z⟩
def SomeP (m n : Nat) (ps : List Pn) (z : List Nat) : Prop := ∃ pt, pt.length = m ∧ (∀ x ∈ pt, x ≤ n) ∧ PM.Pt n (wr pt ps) z
def EveryP (m n : Nat) (ps : List Pn) (z : List Nat) : Prop := ∀ pt, pt.length = m → (∀ x ∈ pt, x < n) → PM.Pt n (wr pt ps) z
theorem pow_fits {n m : Nat} (hn : n ≤ 40) (hm : m ≤ 3) (h : n ^ m ≤ 600) : (n + 1) ^ m ≤ 729 := by
  have key : ∀ n ∈ List.range 41, ∀ m ∈ List.range 4, n ^ m ≤ 600 → (n + 1) ^ m ≤ 729 := by decide +kernel
  exact key n (List.mem_range.mpr (by omega)) m (List.mem_range.mpr (by omega)) h
theorem rep_flat (n : Nat) : ∀ m : Nat, (List.replicate m [V.int ((n : Int) + 1)]).flatten = natsV (List.replicate m (n + 1))
  | 0 => rfl
  | m + 1 => by rw [List.replicate_succ, List.flatten_cons, rep_flat n m, List.replicate_succ]; rfl
def Lt (n : Nat) (pt : List Nat) : Prop := ∀ x ∈ pt, x < n
instance (n : Nat) (pt : List Nat) : Decidable (Lt n pt) := by unfold Lt; exact inferInstance
section
variable {P : Program} {w : World} {K : PySem.W.Frag} {mg : Str → Option Value} {base : Heap} {C E_InvalidText E_InvalidNumber E_TooMany E_CountError : Addr}
def sp_parts (K : PySem.W.Frag) (C E1 E2 E3 : Addr) : Sp := fun vs H Q E => ∃ v z, vs = [v, z] ∧
  ((∃ d, Dp K H v d ∧ ∀ H' x, Same H H' → H' x = some (.xd [("value", v)]) → E (.ref E2) (some x) H') ∨
   (∃ a m ps d, v = .ref a ∧ OT C H a m ps ∧ Dp K H z d ∧ isWi 1 40 d = false ∧ ∀ H' x, Same H H' → H' x = some (.xd [("value", z)]) → E (.ref E1) (some x) H') ∨
   (∃ a m ps n, v = .ref a ∧ z = .int (n : Nat) ∧ OT C H a m ps ∧ m ≤ 3 ∧ 1 ≤ n ∧ n ≤ 40 ∧ 600 < n ^ m ∧ ∀ H' x, Same H H' → H' x = some (.xd [("value", .int (n ^ m : Nat))]) → E (.ref E3) (some x) H') ∨
   (∃ a m ps n, v = .ref a ∧ z = .int (n : Nat) ∧ OT C H a m ps ∧ Tx m ps ∧ m ≤ 3 ∧ 1 ≤ n ∧ n ≤ 40 ∧ n ^ m ≤ 600 ∧
     ∀ l1 l2 r H' zs ys, Same H H' → H l1 = none → H l2 = none → H r = none → l1 ≠ l2 → H' r = some (.tup [.ref l1, .ref l2]) → H' l1 = some (.lst (zs.map fun z => .str (S z))) → H' l2 = some (.lst (ys.map fun z => .str (S z))) → Told zs (SomeP m n ps) → Told ys (EveryP m n ps) → zs.length ≤ 10000000 → ys.length ≤ 12400 → Q (.ref r) H'))
abbrev FPO (K : PySem.W.Frag) (f : Addr) (fd : FuncData) := FunD K "parts_of" "parts_of" (C8.fnArgs (topS 53)) (C8.fnBody (topS 53)) (C8.fnScope (topS 53)) [] [] f fd
theorem xk_parts_of (T : Txt K mg C E_InvalidText E_InvalidNumber E_TooMany E_CountError) {f : Addr} {fd : FuncData} (F : FPO K f fd) : FnOk P w K mg base (L2.CX P w) 5 f fd ["text", "number"] (sp_parts K C E_InvalidNumber E_InvalidText E_TooMany) := by
  refine fnX_of (fun_of F) sc_parts_of (fun vs H Q E h => ?_) (fun cdv A outer s H vs Q E hr h => ?_)
  · obtain ⟨_, _, rfl, _⟩ := h; rfl
  · obtain ⟨v, z, rfl, h⟩ := h
    refine ⟨_, (pss_cons (ps_expr (pe_x (x_need_text T) (takes_of rfl rfl rfl rfl) hr (by decide) (by rfl) (pa_cons (pv 0) pa_nil)))
    (pss_cons (ps_expr (pe_x (x_need_within T) (takes_of rfl rfl rfl rfl) hr (by decide) (by rfl) (pa_cons (pv 1) (pa_cons pe_int (pa_cons (C8.pe_gc (by rfl) T.k_MOST_PART_LETTERS) pa_nil)))))
    (pss_cons (ps_expr (pe_x (x_need_few_points T) (takes_of rfl rfl rfl rfl) hr (by decide) (by rfl) (pa_cons (pv 1) (pa_cons (C8.pe_mt0 (m_OpenText_many T) hr (by decide) (pv 0)) pa_nil))))
    (pss_cons (ps_asg (pe_tup (pa_cons pe_dnewK (pa_cons pe_non pa_nil))) (pg_two (K := K) (i := 2) (j := 3) rfl rfl sc_parts_of.nd rfl rfl (Or.inl rfl) (Or.inr rfl)))
    (pss_cons (ps_noxE (ps_for PassesOwn.never rfl (pi_list (C8.pe_c (c_points_below T) hr (by decide) (by rfl) (pa_cons (pe_op op_rep (pe_lst (pa_cons (pe_op op_add (pv 1) pe_int) pa_nil)) (C8.pe_mt0 (m_OpenText_many T) hr (by decide) (pv 0))) pa_nil))) (pg_name (i := 4) sc_parts_of.nd rfl (Or.inl rfl))
    (pss_cons (ps_set (i := 5) sc_parts_of.nd rfl (Or.inl rfl) (C8.pe_c (c_parts_at T) hr (by decide) (by rfl) (pa_cons (pv 0) (pa_cons (pv 1) (pa_cons (pv 4) pa_nil)))))
    (pss_cons (ps_expr (pe_bm PySem.F.plainAttrs_dict PySem.F.slot_dict_update PySem.F.type_dict_update mt_updK (pv 2) (pa_cons (pv 5) pa_nil)))
    (pss_one (ps_if (pt_cmpR op_lt (pe_maxD rfl (by rfl) T.m_max (by decide +kernel) (pa_cons (pv 4) pa_nil) pe_int) (pv 1) (nomark _))
    (pss_one (ps_set (i := 3) sc_parts_of.nd rfl (Or.inr rfl) (pe_ifExp (pt_cmpR op_isN (pv 3) pe_non (nomark _)) (pv 5) (pe_lock (pe_dc (own := [("part", 6)]) (by rfl) sc_parts_of.nd (pi_keys (pv 5)) (blkOk_by (N := ["text", "number", "some", "every", "point", "found", "part"]) (sc := C8.fnScope (topS 53)) (own := [("part", 6)]) (by decide +kernel)) (fun _ _ _ _ _ => (pg_name (i := 6) sc_parts_of.nd rfl (Or.inl rfl))) (fun _ _ _ _ _ => (pts_one (pt_cmp (pc_din (room1 hr) (pv 6) (pv 3))))) (fun _ _ _ _ _ => (pv 6)) (fun _ _ _ _ _ => pe_bl))))))
    pss_nil))))))
    (pss_one (ps_ret (pe_tup (pa_cons (pe_callB (call_sortedDA rfl hr.units) (by rfl) T.m_sorted (by decide +kernel) (pa_cons (pv 2) pa_nil)) (pa_cons (pe_callB (call_sortedDA rfl hr.units) (by rfl) T.m_sorted (by decide +kernel) (pa_cons (pv 3) pa_nil)) pa_nil)))))))))), ?_⟩
    rcases h with ⟨d, dv, q⟩ | ⟨a, m, ps, d, rfl, oa, dz, nf, q⟩ | ⟨a, m, ps, n, rfl, rfl, oa, m3, n1, n40, big, q⟩ | ⟨a, m, ps, n, rfl, rfl, oa, tx, m3, n1, n40, few, q⟩
    · exact ⟨_, rfl, v, rfl, .inr ⟨d, dv, q⟩⟩
    · obtain ⟨l, ⟨dx, ha⟩, ga⟩ := id oa
      exact ⟨_, rfl, _, rfl, .inl ⟨a, dx, _, rfl, ha, _, rfl, 1, 40, z, d, rfl, dz, .inr ⟨nf, q⟩⟩⟩
    · obtain ⟨l, ⟨dx, ha⟩, ga⟩ := id oa
      refine ⟨_, rfl, _, rfl, .inl ⟨a, dx, _, rfl, ha, _, rfl, 1, 40, _, _, rfl, .int _, .inl ⟨by show (decide (1 ≤ (n : Int)) && decide ((n : Int) ≤ 40)) = true; rw [decide_eq_true (by omega), decide_eq_true (by omega)]; rfl, ?_⟩⟩⟩
      exact ⟨_, rfl, _, rfl, a, dx, _, rfl, ha, (OF_no l m).2, a, m, ps, rfl, oa, n, m, rfl, by omega, m3, .inr ⟨big, q⟩⟩
    · obtain ⟨l, ⟨dx, ha⟩, ga⟩ := id oa
      refine ⟨_, rfl, _, rfl, .inl ⟨a, dx, _, rfl, ha, _, rfl, 1, 40, _, _, rfl, .int _, .inl ⟨by show (decide (1 ≤ (n : Int)) && decide ((n : Int) ≤ 40)) = true; rw [decide_eq_true (by omega), decide_eq_true (by omega)]; rfl, ?_⟩⟩⟩
      refine ⟨_, rfl, _, rfl, a, dx, _, rfl, ha, (OF_no l m).2, a, m, ps, rfl, oa, n, m, rfl, by omega, m3, .inl ⟨few, ?_⟩⟩
      refine fun D nD => ⟨by show 2 ≤ sizeLine; decide, fun tt ntt => ?_⟩
      have sD := sameNew (o := .dK []) nD
      have hD0 : Kd (upd H D (.dK [])) D [] := ⟨[], upd_same, .nil⟩
      generalize upd H D (.dK []) = HD at sD hD0 ntt ⊢
      have st := sameNew (o := .tup [V.ref D, V.non]) ntt
      have ht : upd HD tt (.tup [V.ref D, V.non]) tt = some (.tup [V.ref D, V.non]) := upd_same
      generalize upd HD tt (.tup [V.ref D, V.non]) = H1 at st ht ⊢
      have s1 := sD.trans st
      have hD1 := hD0.same st
      refine ⟨tt, _, rfl, .inl (.inl ht), rfl, _, _, rfl, _, _, rfl, rfl, ?_⟩
      refine ⟨_, rfl, _, _, rfl, rfl, by show 1 ≤ sizeLine; decide, fun lq nlq => ?_⟩
      have sq := sameNew (o := .lst [.int ((n : Int) + 1)]) nlq
      have hq : upd H1 lq (.lst [.int ((n : Int) + 1)]) lq = some (.lst [.int ((n : Int) + 1)]) := upd_same
      generalize upd H1 lq (.lst [.int ((n : Int) + 1)]) = H2 at sq hq ⊢
      have s2 := s1.trans sq
      refine ⟨_, rfl, a, dx, _, rfl, s2 _ _ ha, (OF_no l m).2, a, m, ps, rfl, oa.same s2, ?_⟩
      have e0 : (List.replicate (((m : Nat) : Int)).toNat [V.int ((n : Int) + 1)]).flatten = natsV (List.replicate m (n + 1)) := by
        rw [Int.toNat_natCast]
        exact rep_flat n m
      refine ⟨lq, _, _, rfl, rfl, hq, by omega, by omega, by rw [sizeLine_eq]; simp; omega, fun lp nlp => ?_⟩
      dsimp only at nlp ⊢
      rw [e0]
      have sp := sameNew (o := .lst (natsV (List.replicate m (n + 1)))) nlp
      have hp : upd H2 lp (.lst (natsV (List.replicate m (n + 1)))) lp = some (.lst (natsV (List.replicate m (n + 1)))) := upd_same
      generalize upd H2 lp (.lst (natsV (List.replicate m (n + 1)))) = H3 at sp hp ⊢
      have fits := pow_fits n40 m3 few
      refine ⟨lp, m, n, rfl, hp, m3, by omega, by omega, fun Dp H4 s4 pl => ?_⟩
      obtain ⟨vs, hvs, pvs⟩ := pl
      have lvs := pvs.len
      have lbx := len_box n m
      have s04 := ((s2.trans sp).trans s4)
      have hD4 := hD1.same (sq.trans (sp.trans s4))
      have nDH : H D = none := nD
      have dne : ∀ {l : Addr} {xs : List V}, H4 l = some (.lst xs) → l ≠ D := fun h e => by
        obtain ⟨kvs, hk, _⟩ := hD4
        rw [e, hk] at h
        cases h
      have sHH : ∀ {HH : Hp}, SameX D H4 HH → Same H HH := fun sx b o e => sx b o (fun z => by rw [z, nDH] at e; cases e) (s04 _ _ e)
      refine ⟨Dp, rfl, ⟨_, .inl (.inl hvs)⟩, for_list (K := K) (D := { nx := _, rt := Q, bk := fun _ _ => False, ct := fun _ _ => False }) (a := Dp) (xs := vs) (fun i σ HH => SameX D H4 HH ∧ ∃ (ks : List (List Nat)) (ev y4 y5 : Option V), σ = [some (.ref a), some (.int (n : Nat)), some (.ref D), ev, y4, y5, none] ∧ Kd HH D ks ∧ ks.length ≤ 12400 * i ∧ (∀ z, z ∈ ks ↔ ∃ pt ∈ (box m n).take i, PM.Pt n (wr pt ps) z) ∧
        ((ev = some .non ∧ ∀ pt ∈ (box m n).take i, ¬ Lt n pt) ∨ ∃ E ls, ev = some (.ref E) ∧ E ≠ D ∧ Kd HH E ls ∧ ls.length ≤ 12400 ∧ ∀ z, z ∈ ls ↔ ∀ pt ∈ (box m n).take i, Lt n pt → PM.Pt n (wr pt ps) z))
        ⟨.refl _ _, [], _, none, none, rfl, hD4, Nat.zero_le _, fun z => by simp, .inl ⟨rfl, fun pt h => by simp at h⟩⟩ (fun i σ HH _ p => .inl (.inl (p.1 _ _ (dne hvs) hvs))) (fun i v σ HH hi p => ?_) fun σ HH p => ?_⟩
      · obtain ⟨sx, ks, ev, y4, y5, rfl, kd, lks, mem, hev⟩ := p
        obtain ⟨l, pt, rfl, hpt, hlp⟩ := pvs.get hi
        obtain ⟨lpt, bpt⟩ := mem_box.mp (List.mem_of_getElem? hpt)
        have il : i < (box m n).length := (List.getElem?_eq_some_iff.mp hpt).1
        have hlpH : LP HH l pt := sx _ _ (dne hlp) hlp
        have sH := sHH sx
        have bfp : Bf pt := fun x hx => Nat.lt_of_le_of_lt (show x ≤ 40 by have := bpt x hx; omega) (by decide)
        rw [gname_eq]
        refine ⟨_, rfl, _, rfl, _, rfl, a, l, m, n, ps, pt, rfl, oa.same sH, tx, hlpH, lpt, m3, bfp, n1, n40, fun D2 H5 ks2 s5 nD2 kd2 lk2 mem2 => ?_⟩
        obtain ⟨kvs, hk, kk⟩ := kd.same s5
        obtain ⟨kvs2, hk2, kk2⟩ := kd2
        have DD2 : D2 ≠ D := fun e => by
          obtain ⟨kv, hkv, _⟩ := kd
          rw [e, hkv] at nD2
          cases nD2
        have eT : (box m n).take (i + 1) = (box m n).take i ++ [pt] := by
          rw [List.take_succ, hpt]
          rfl
        dsimp only
        rw [gname_eq]
        have l1 := kk.len
        have l2 := kk2.len
        refine ⟨_, rfl, .inr (.inr (.inl ⟨rfl, .inl ⟨_, hk⟩⟩)), _, rfl, D, D2, kvs, kvs2, rfl, rfl, Ne.symm DD2, hk, hk2, by rw [l1, l2, sizeLine_eq]; omega, ?_⟩
        obtain ⟨ms, mk, mmem, mlen⟩ := Ks.merge kk2 kk
        have sx6 : SameX D H4 (upd H5 D (.dK (mergeK kvs kvs2))) := (sx.trans (.of s5)).trans sameX_upd
        have hk6 : Kd (upd H5 D (.dK (mergeK kvs kvs2))) D ms := ⟨_, upd_same, mk⟩
        have k26 : upd H5 D (.dK (mergeK kvs kvs2)) D2 = some (.dK kvs2) := by rw [upd_ne DD2]; exact hk2
        have hlp6 : LP (upd H5 D (.dK (mergeK kvs kvs2))) l pt := sx6 _ _ (dne hlp) hlp
        have mem' : ∀ z, z ∈ ms ↔ ∃ pt ∈ (box m n).take (i + 1), PM.Pt n (wr pt ps) z := fun z => by
          rw [mmem, mem, mem2, eT]
          constructor
          · rintro (⟨q, hq, h⟩ | h)
            · exact ⟨q, List.mem_append.mpr (.inl hq), h⟩
            · exact ⟨pt, List.mem_append.mpr (.inr List.mem_cons_self), h⟩
          · rintro ⟨q, hq, h⟩
            rcases List.mem_append.mp hq with z' | z'
            · exact .inl ⟨q, z', h⟩
            · rw [List.mem_singleton.mp z'] at h
              exact .inr h
        have hev' : (ev = some .non ∧ ∀ pt ∈ (box m n).take i, ¬ Lt n pt) ∨ ∃ E ls, ev = some (.ref E) ∧ E ≠ D ∧ E ≠ D2 ∧ Kd (upd H5 D (.dK (mergeK kvs kvs2))) E ls ∧ ls.length ≤ 12400 ∧ ∀ z, z ∈ ls ↔ ∀ pt ∈ (box m n).take i, Lt n pt → PM.Pt n (wr pt ps) z := by
          rcases hev with h | ⟨E, ls, e1, e2, ⟨kvE, hE, kE⟩, e4, e5⟩
          · exact .inl h
          · exact .inr ⟨E, ls, e1, e2, fun e => by (rw [← e, hE] at nD2; cases nD2), ⟨kvE, by rw [upd_ne e2]; exact s5 _ _ hE, kE⟩, e4, e5⟩
        have lms : ms.length ≤ 12400 * (i + 1) := by omega
        generalize upd H5 D (.dK (mergeK kvs kvs2)) = H6 at sx6 hk6 k26 hlp6 hev' ⊢
        clear hev mem mmem mlen
        refine ⟨_, rfl, l, pt, rfl, hlp6, rfl, _, rfl, _, _, rfl, rfl, _, rfl, ?_⟩
        have ml : decide (((mx pt : Nat) : Int) < ((n : Nat) : Int)) = decide (Lt n pt) := decide_eq_decide.mpr ⟨fun h x hx => by have := le_mx hx; omega, fun h => by have := mx_le (n := n - 1) (l := pt) (fun x hx => by have := h x hx; omega); omega⟩
        rw [ml]
        by_cases c : Lt n pt
        · rw [decide_eq_true c]
          refine iteT ?_
          have mE : ∀ {Pz : List Nat → Prop} {z : List Nat}, (∀ q ∈ (box m n).take (i + 1), Lt n q → PM.Pt n (wr q ps) z) ↔ (∀ q ∈ (box m n).take i, Lt n q → PM.Pt n (wr q ps) z) ∧ PM.Pt n (wr pt ps) z := fun {Pz z} => by
            rw [eT]
            constructor
            · exact fun h => ⟨fun q hq => h q (List.mem_append.mpr (.inl hq)), h pt (List.mem_append.mpr (.inr List.mem_cons_self)) c⟩
            · rintro ⟨h1, h2⟩ q hq lq
              rcases List.mem_append.mp hq with z' | z'
              · exact h1 q z' lq
              · rw [List.mem_singleton.mp z']
                exact h2
          rcases hev' with ⟨rfl, no⟩ | ⟨E, ls, rfl, ED, ED2, ⟨kvE, hE, kE⟩, lE, mE5⟩
          · refine ⟨_, rfl, rfl, _, rfl, iteT ⟨_, rfl, ?_⟩⟩
            refine ⟨sx6, ms, _, _, _, rfl, hk6, lms, mem', .inr ⟨D2, ks2, rfl, DD2, ⟨kvs2, k26, kk2⟩, lk2, fun z => ?_⟩⟩
            rw [mE (Pz := fun _ => True), mem2]
            exact ⟨fun h => ⟨fun q hq lq => absurd lq (no q hq), h⟩, fun h => h.2⟩
          · refine ⟨_, rfl, rfl, _, rfl, iteF ?_⟩
            refine ⟨D2, .dK kvs2, k26, trivial, fun od => ?_⟩
            have hfz := upd_same (H := H6) (a := D2) (o := .frz od (.dK kvs2))
            refine ⟨_, rfl, D2, od, rfl, .inl ⟨kvs2, hfz, fun Dn hDn => ?_⟩⟩
            have DnD : Dn ≠ D2 := fun e => by rw [e, hfz] at hDn; cases hDn
            refine dc_keys (ks := kvs2) (fun j HB => Same (upd H6 D2 (.frz od (.dK kvs2))) HB ∧ ∃ js, Kd HB Dn js ∧ js.length ≤ j ∧ ∀ z, z ∈ js ↔ z ∈ ks2.take j ∧ z ∈ ls) ⟨sameNew hDn, [], ⟨[], upd_same, .nil⟩, Nat.le_refl _, fun z => by simp⟩ (fun j HB _ p => p.1 _ _ hfz) (fun j k v HB hj p => ?_) fun HB p => ?_
            · obtain ⟨sB, js, ⟨jvs, hjs, kjs⟩, jl, jmem⟩ := p
              have jl2 : j < kvs2.length := (List.getElem?_eq_some_iff.mp hj).1
              obtain ⟨z, hz, rfl⟩ : ∃ z, ks2[j]? = some z ∧ k = Sum.inr (S z) := by
                have e := congrArg (fun l => l[j]?) kk2.1
                simp only [List.getElem?_map, hj] at e
                cases e2 : ks2[j]? with
                | none => rw [e2] at e; cases e
                | some z => rw [e2] at e; exact ⟨z, rfl, Option.some.inj e⟩
              have hEB : HB E = some (.dK kvE) := sB _ _ (by rw [upd_ne ED2]; exact hE)
              have eT2 : ks2.take (j + 1) = ks2.take j ++ [z] := by
                rw [List.take_succ, hz]
                rfl
              refine ⟨rfl, ?_⟩
              refine ⟨_, rfl, _, rfl, E, _, rfl, DGet.k hEB, ?_⟩
              rw [kE.get]
              refine ⟨_, rfl, ?_⟩
              rw [eT2]
              by_cases e : z ∈ ls
              · rw [decide_eq_true e]
                refine iteT ⟨_, rfl, ?_⟩
                obtain ⟨js', k1, k2, k3⟩ := kjs.put z (.bl true)
                refine ⟨jvs, Sum.inr (S z), rfl, hjs, by have := kjs.len; rw [sizeLine_eq]; omega, same_upd2 hDn sB, js', ⟨_, upd_same, k1⟩, by omega, fun y => ?_⟩
                rw [k2, jmem, List.mem_append, List.mem_singleton]
                constructor
                · rintro (⟨h1, h2⟩ | h)
                  · exact ⟨.inl h1, h2⟩
                  · exact ⟨.inr h, h ▸ e⟩
                · rintro ⟨h1 | h1, h2⟩
                  · exact .inl ⟨h1, h2⟩
                  · exact .inr h1
              · rw [decide_eq_false e]
                refine iteF ⟨sB, js, ⟨jvs, hjs, kjs⟩, by omega, fun y => ?_⟩
                rw [jmem, List.mem_append, List.mem_singleton]
                constructor
                · exact fun h => ⟨.inl h.1, h.2⟩
                · rintro ⟨h1 | h1, h2⟩
                  · exact ⟨h1, h2⟩
                  · exact absurd (h1 ▸ h2) e
            · obtain ⟨sB, js, ⟨jvs, hjs, kjs⟩, jl, jmem⟩ := p
              obtain ⟨hfB, sU⟩ := same_lock k26 sB
              refine ⟨hfB, ?_⟩
              rw [l2, List.take_length] at jmem
              have hjU : upd HB D2 (.dK kvs2) Dn = some (.dK jvs) := by rw [upd_ne DnD]; exact hjs
              refine ⟨sx6.trans (.of sU), ms, _, _, _, rfl, hk6.same sU, lms, mem', .inr ⟨Dn, js, rfl, fun e => ?_, ⟨jvs, hjU, kjs⟩, by omega, fun z => ?_⟩⟩
              · obtain ⟨_, hk', _⟩ := hk6
                rw [e, upd_ne (Ne.symm DD2), hk'] at hDn
                cases hDn
              · rw [mE (Pz := fun _ => True), jmem, mem2, mE5]
                exact And.comm
        · rw [decide_eq_false c]
          refine iteF ?_
          rw [tnext_eq]
          refine ⟨sx6, ms, ev, _, _, rfl, hk6, lms, mem', ?_⟩
          rcases hev' with ⟨e, no⟩ | ⟨E, ls, e, ED, ED2, kE, lE, mE5⟩
          · refine .inl ⟨e, fun q hq => ?_⟩
            rw [eT] at hq
            rcases List.mem_append.mp hq with z' | z'
            · exact no q z'
            · rw [List.mem_singleton.mp z']
              exact c
          · refine .inr ⟨E, ls, e, ED, kE, lE, fun z => ?_⟩
            rw [mE5, eT]
            constructor
            · intro h q hq lq
              rcases List.mem_append.mp hq with z' | z'
              · exact h q z' lq
              · rw [List.mem_singleton.mp z'] at lq
                exact absurd lq c
            · exact fun h q hq => h q (List.mem_append.mpr (.inl hq))
      · obtain ⟨sx, ks, ev, y4, y5, rfl, kd, lks, mem, hev⟩ := p
        rw [lvs, List.take_length] at mem hev
        have zer : List.replicate m 0 ∈ box m n := mem_box.mpr ⟨List.length_replicate, fun x hx => by rw [List.eq_of_mem_replicate hx]; omega⟩
        have lz : Lt n (List.replicate m 0) := fun x hx => by rw [List.eq_of_mem_replicate hx]; omega
        rcases hev with ⟨rfl, no⟩ | ⟨E, ls, rfl, ED, ⟨kvE, hE, kE⟩, lE, mE5⟩
        · exact absurd lz (no _ zer)
        obtain ⟨kvs, hk, kk⟩ := kd
        have lks' : ks.length ≤ 9100000 := by rw [lvs] at lks; omega
        refine ⟨_, rfl, D, kvs, ks.map S, rfl, .inl hk, by rw [kk.1, List.map_map]; rfl, by rw [List.length_map, sizeLine_eq]; omega, fun p1 np1 => ?_⟩
        rw [sort_S1]
        have sp1 := sameNew (o := .lst (((ks.mergeSort leW).map S).map V.str)) np1
        have np1' := (sHH sx).free np1
        have hp1 : upd HH p1 (.lst (((ks.mergeSort leW).map S).map V.str)) p1 = some (.lst (((ks.mergeSort leW).map S).map V.str)) := upd_same
        generalize upd HH p1 (.lst (((ks.mergeSort leW).map S).map V.str)) = H7 at sp1 hp1 ⊢
        refine ⟨_, rfl, E, kvE, ls.map S, rfl, .inl (sp1 _ _ hE), by rw [kE.1, List.map_map]; rfl, by rw [List.length_map, sizeLine_eq]; omega, fun p2 np2 => ?_⟩
        rw [sort_S1]
        have sp2 := sameNew (o := .lst (((ls.mergeSort leW).map S).map V.str)) np2
        have np2' := ((sHH sx).trans sp1).free np2
        have p12 : p1 ≠ p2 := fun e => by rw [← e, hp1] at np2; cases np2
        have hp2 : upd H7 p2 (.lst (((ls.mergeSort leW).map S).map V.str)) p2 = some (.lst (((ls.mergeSort leW).map S).map V.str)) := upd_same
        generalize upd H7 p2 (.lst (((ls.mergeSort leW).map S).map V.str)) = H8 at sp2 hp2 ⊢
        refine ⟨by show 2 ≤ sizeLine; decide, fun r nr => ?_⟩
        have sr := sameNew (o := .tup [.ref p1, .ref p2]) nr
        have sAll := ((sHH sx).trans sp1).trans sp2
        have mm : ∀ z : List (List Nat), (z.map S).map V.str = z.map fun z => V.str (S z) := fun z => by rw [List.map_map]; rfl
        refine q p1 p2 r _ (ks.mergeSort leW) (ls.mergeSort leW) (sAll.trans sr) np1' np2' (sAll.free nr) p12 upd_same (by rw [sr _ _ (sp2 _ _ hp1), mm]) (by rw [sr _ _ hp2, mm]) (told_sort kk.2 fun z => ?_) (told_sort kE.2 fun z => ?_) (by rw [List.length_mergeSort]; omega) (by rw [List.length_mergeSort]; omega)
        · rw [mem]
          constructor
          · rintro ⟨pt, hpt, h⟩
            obtain ⟨h1, h2⟩ := mem_box.mp hpt
            exact ⟨pt, h1, h2, h⟩
          · rintro ⟨pt, h1, h2, h⟩
            exact ⟨pt, mem_box.mpr ⟨h1, h2⟩, h⟩
        · rw [mE5]
          constructor
          · exact fun h pt h1 h2 => h pt (mem_box.mpr ⟨h1, fun x hx => Nat.le_of_lt (h2 x hx)⟩) h2
          · exact fun h pt hpt lt => h pt (mem_box.mp hpt).1 lt
theorem x_parts_of (T : Txt K mg C E_InvalidText E_InvalidNumber E_TooMany E_CountError) : CalX P w K mg base 5 "parts_of" (sp_parts K C E_InvalidNumber E_InvalidText E_TooMany) := by
  obtain ⟨f, fd, F, hm⟩ := T.d_parts_of.ex
  refine ⟨f, fd, _, xk_parts_of T F, hm, F.kp, F.bindsN fun kV doc pm an cdv ct us hl => ?_⟩
  match us, hl with
  | [u, v], _ => rfl
theorem c_parts_of (T : Txt K mg C E_InvalidText E_InvalidNumber E_TooMany E_CountError) : C8.Cal P w K mg base 5 "parts_of" (fun vs H Q _ => sp_parts K C E_InvalidNumber E_InvalidText E_TooMany vs H Q E0) [] := (x_parts_of T).cal
theorem c_parts_of_K_number_text (T : Txt K mg C E_InvalidText E_InvalidNumber E_TooMany E_CountError) : CalN P w K mg base 5 "parts_of" ["number", "text"] (fun vs H Q _ => sp_parts K C E_InvalidNumber E_InvalidText E_TooMany vs H Q E0) (fun vs zs => vs ++ ((zs.drop 1).take 1 ++ zs.take 1)) := by
  obtain ⟨f, fd, F, hm⟩ := T.d_parts_of.ex
  refine ⟨f, fd, ["text", "number"], _, calm_of (xk_parts_of T F), hm, F.kp, FunD.kbindsN F 0 ["number", "text"] (fun us ws => us ++ ((ws.drop 1).take 1 ++ ws.take 1)) (fun r1 r2 => r1.append (((r2.drop 1).take 1).append (r2.take 1))) fun kV doc pm an cdv ct us ws l1 l2 => ?_⟩
  match us, l1, ws, l2 with
  | [], _, [u, v], _ => rfl
end
end K59

set_option Elab.async false
set_option linter.all false
set_option maxRecDepth 100000
set_option maxHeartbeats 4000000
set_option exponentiation.threshold 3000
namespace K59
open K59 PySem PySem.Spec PyProof.Rows L2 CK SX NM
open K59W (gname_eq tnext_eq c_law_random sp_random c_law_generator)
theorem joinS {a u : TS} {D : Ends} {σ : L2.St} {H : Hp} (Pre : L2.St → Hp → Prop) (rest : ∀ σ' H', Pre σ' H' → u D σ' H') (m : ∀ U : TS, (∀ σ' H', Pre σ' H' → U D σ' H') → tSeq a U D σ H) : tSeq a u D σ H := m u rest
/-- draws of c steps, of objects with tuples -/
theorem lcH_draw {lo : Int} {g : Addr} {n cnt j : Nat} (c : Nat) (Pz : V → Hp → Prop) (mono : ∀ v H H', (∀ b xs, H b = some (.tup xs) → H' b = some (.tup xs)) → Pz v H → Pz v H') {te : TE} {vs : List Nat} {σ : L2.St} {H1 : Hp} {D : Addr} {Qd : Hp → Prop} (hc : cnt < sizeLine) (hD : H1 D = none) (hg : Gn (n + c * cnt) H1 g)
    (hs : ∀ (i : Nat) (H : Hp) (R : VK), i < cnt → SameX g H1 H → Gn (n + c * (cnt - (i + 1)) + c) H g → (∀ (r : V) H', SameX g H H' → Gn (n + c * (cnt - (i + 1))) H' g → Pz r H' → R r H') →
      wipe ((wipe σ vs).set j (some (.int (lo + i)))) vs = wipe σ vs ∧ te ((wipe σ vs).set j (some (.int (lo + i)))) H R)
    (hd : ∀ (H : Hp) (ns : List V), SameX g H1 H → Gn n H g → H D = some (.lst ns) → ns.length = cnt → (∀ x ∈ ns, Pz x H) → Qd H) :
    ∃ W : Nat → Nat → Hp → Prop, (∃ m, W 0 m (L2.upd H1 D (.lst []))) ∧ ∀ i m H, W i m H →
      ((Itr lo cnt).stop i H ∧ Qd H) ∨ ((Itr lo cnt).go i H ∧ ∃ Nx : Hp → Prop, (∀ H', Nx H' → ∃ m', m' < m ∧ W (i + 1) m' H') ∧ ∀ x H', (Itr lo cnt).yld i H x H' → gName j x (wipe σ vs) H' fun σ2 H2 => wipe σ2 vs = wipe σ vs ∧ tYes σ2 H2 fun b H3 =>
        if b = true then te σ2 H3 fun y H4 => ∃ acc, H4 D = some (.lst acc) ∧ acc.length < sizeLine ∧ Nx (L2.upd H4 D (.lst (acc ++ [y]))) else Nx H3) := by
  have hDg := hg.ne hD
  refine lc_range (fun i H => SameX g H1 H ∧ Gn (n + c * (cnt - i)) H g ∧ i ≤ cnt ∧ ∃ ns : List V, H D = some (.lst ns) ∧ ns.length = i ∧ ∀ x ∈ ns, Pz x H)
    ⟨sameX_new hD, hg.upd hDg, Nat.zero_le _, [], upd_same, rfl, fun x h => absurd h List.not_mem_nil⟩ (fun i H hi p => ?_) fun H p => ?_
  · obtain ⟨s, G, _, ns, hL, hl, hb⟩ := p
    have G1 : Gn (n + c * (cnt - (i + 1)) + c) H g := by
      have e : n + c * (cnt - (i + 1)) + c = n + c * (cnt - i) := by
        have hi' : i < cnt := hi
        rw [show cnt - i = (cnt - (i + 1)) + 1 by omega, Nat.mul_succ]
        omega
      rw [e]
      exact G
    refine hs i H _ hi s G1 fun r H' s' G' h0 => ⟨_, s' D _ hDg hL, by omega, (s.trans s').upd2 hD, G'.upd hDg, hi, ns ++ [r], upd_same, ?_, fun x hx => ?_⟩
    · rw [List.length_append, hl]
      rfl
    · have up := tup_upd (s' D _ hDg hL) (ys := ns ++ [r])
      rcases List.mem_append.mp hx with z | z
      · refine mono x _ _ (fun b xs e => up b xs (s' b _ (fun q => ?_) e)) (hb x z)
        obtain ⟨_, _, _, e', _⟩ := G1
        rw [q, e'] at e
        cases e
      · rw [List.mem_singleton.mp z]
        exact mono r _ _ up h0
  · obtain ⟨s, G, _, ns, hL, hl, hb⟩ := p
    rw [Nat.sub_self, Nat.mul_zero] at G
    exact hd H ns s G hL hl hb
def AB (w : List Nat) : Prop := ∀ c ∈ w, c = 97 ∨ c = 98
theorem AB.low {w : List Nat} (h : AB w) : Low w := fun c hc => by rcases h c hc with rfl | rfl <;> decide
theorem AB.app {a b : List Nat} (h : AB a) (g : AB b) : AB (a ++ b) := fun c hc => (List.mem_append.mp hc).elim (h c) (g c)
theorem join_ones (cs : List Nat) : Txt.join (Str.ofString "") ((cs.map fun c => [c]).map S) = S cs := by
  rw [join_flat]
  congr 1
  induction cs with
  | nil => rfl
  | cons c r ih => rw [List.map_cons, List.flatten_cons, ih]; rfl
theorem signs_of {H : Hp} : ∀ {vs : List V}, (∀ v ∈ vs, ∃ c : Nat, v = .str (S [c]) ∧ (c = 97 ∨ c = 98)) → ∃ cs : List Nat, vs = ((cs.map fun c => [c]).map fun z => V.str (S z)) ∧ AB cs
  | [], _ => ⟨[], rfl, fun c h => nomatch h⟩
  | v :: r, h => by
    obtain ⟨c, rfl, hc⟩ := h v List.mem_cons_self
    obtain ⟨cs, rfl, hs⟩ := signs_of (H := H) (vs := r) fun x hx => h x (List.mem_cons_of_mem _ hx)
    exact ⟨c :: cs, rfl, fun x hx => (List.mem_cons.mp hx).elim (fun e => by rw [e]; exact hc) (hs x)⟩
section
variable {P : Program} {w : World} {K : PySem.W.Frag} {mg : Str → Option Value} {base : Heap} {C E_InvalidText E_InvalidNumber E_TooMany E_CountError : Addr}
def sp_word : Sp := fun vs H Q _ => ∃ (g : Addr) (m n : Nat), vs = [.ref g, .int m] ∧ m ≤ 10 ∧ Gn (n + 30) H g ∧ ∀ z H', SameX g H H' → Gn n H' g → AB z → z.length ≤ m → Q (.str (S z)) H'
theorem c_law_word (T : Txt K mg C E_InvalidText E_InvalidNumber E_TooMany E_CountError) : C8.Cal P w K mg base 3 "_law_word" sp_word [] := by
  refine calF T.d_law_word sc_law_word (fun vs H Q E h => ?_) (fun f cdv A outer s H vs Q E hr h => ?_)
  · obtain ⟨_, _, _, rfl, _⟩ := h; rfl
  · obtain ⟨g, m, n, rfl, hm, G, q⟩ := h
    refine ⟨_, (pss_one (ps_ret (pe_join pe_str (pe_lc (own := [("_law_turn", 2)]) (by rfl) sc_law_word.nd (pi_range1 (by rfl) T.m_range (pa_cons (C8.pe_c (c_law_random T) hr (by decide) (by rfl) (pa_cons (pv 0) (pa_cons (pe_op op_add (pv 1) pe_int) pa_nil))) pa_nil)) (blkOk_by (N := ["_law_generator_here", "_law_most", "_law_turn"]) (sc := C8.fnScope (topS 59)) (own := [("_law_turn", 2)]) (by decide +kernel)) (fun _ _ _ _ _ => (pg_name (i := 2) sc_law_word.nd rfl (Or.inl rfl))) (fun _ _ _ _ _ => pts_nil) (fun _ _ _ _ _ => (pe_ix ix_str pe_str (C8.pe_c (c_law_random T) hr (by decide) (by rfl) (pa_cons (pv 0) (pa_cons pe_int pa_nil))) (fun _ _ => rfl))))))), ?_⟩
    refine ⟨⟨_, rfl⟩, _, rfl, _, rfl, (m : Int), 1, rfl, rfl, g, _, n + 29, rfl, G, by omega, by omega, fun c H1 s1 G1 c0 c1 => ⟨c, rfl, by omega, by omega, fun D hD => ?_⟩⟩
    refine lcH_draw 1 (lo := 0) (g := g) (n := n) (cnt := c.toNat) (fun v _ => ∃ c : Nat, v = .str (S [c]) ∧ (c = 97 ∨ c = 98)) (fun _ _ _ _ h => h) (by rw [sizeLine_eq]; omega) hD (G1.le (by omega)) (fun i H6 R hi s6 G6 q' => ?_) fun H7 ns s7 G7 hL hln hP => ?_
    · refine ⟨rfl, _, rfl, g, 2, _, rfl, G6, by decide, by decide, fun b H8 s8 G8 b0 b1 => ?_⟩
      rcases (by omega : b = 0 ∨ b = 1) with rfl | rfl
      · exact ⟨_, 0, 97, rfl, rfl, by decide +kernel, by decide +kernel, q' (.str (S [97])) H8 s8 G8 ⟨97, rfl, .inl rfl⟩⟩
      · exact ⟨_, 1, 98, rfl, rfl, by decide +kernel, by decide +kernel, q' (.str (S [98])) H8 s8 G8 ⟨98, rfl, .inr rfl⟩⟩
    · obtain ⟨cs, rfl, hab⟩ := signs_of (H := H7) hP
      rw [List.length_map, List.length_map] at hln
      refine ⟨_, D, (cs.map fun c => [c]).map S, rfl, rfl, .inl (.inl (.inl (by rw [hL]; simp only [List.map_map]; rfl))), ?_, ?_⟩
      · rw [len_flatS, len_empty, List.length_map, List.length_map, Nat.mul_zero, show (cs.map fun c => [c]).flatten = cs by rw [← List.flatMap_def]; simp]
        omega
      · rw [join_ones]
        exact q cs H7 (s1.trans s7) G7 hab (by omega)
structure DrP (m : Nat) (p : Pn) : Prop where
  len : p.2.length = m + 1
  wl : p.1.length ≤ 10
  ab : AB p.1
  c0 : p.2.headD 0 ≤ 2
  num : ∀ x ∈ p.2, x ≤ 10 ^ 18
def sp_piece : Sp := fun vs H Q _ => ∃ (g : Addr) (b : List Nat) (m n : Nat), vs = [.ref g, .str (S b), .int m, .bl true] ∧ Gn (n + 100) H g ∧ m ≤ 3 ∧ b ≠ [] ∧ b.length ≤ 5 ∧ AB b ∧ ∀ (a : Addr) (p : Pn) H', SameX g H H' → Gn n H' g → PC H' a p → DrP m p → Q (.ref a) H'
theorem c_law_piece (T : Txt K mg C E_InvalidText E_InvalidNumber E_TooMany E_CountError) : C8.Cal P w K mg base 4 "_law_piece" sp_piece [] := by
  refine calF T.d_law_piece sc_law_piece (fun vs H Q E h => ?_) (fun f cdv A outer s H vs Q E hr h => ?_)
  · obtain ⟨_, _, _, _, rfl, _⟩ := h; rfl
  · obtain ⟨g, b, m, n, rfl, G, m3, ne, lb, ab, q⟩ := h
    have n0 := List.length_pos_iff.mpr ne
    refine ⟨_, (pss_cons (ps_par (i := 4) (j := 5) (by rfl) sc_law_piece.nd rfl rfl (by decide) rfl rfl (pa_cons (C8.pe_c (c_law_random T) hr (by decide) (by rfl) (pa_cons (pv 0) (pa_cons pe_int pa_nil))) (pa_cons (C8.pe_c (c_law_random T) hr (by decide) (by rfl) (pa_cons (pv 0) (pa_cons (pe_callB call_len_str (by rfl) T.m_len (by decide +kernel) (pa_cons (pv 1) pa_nil)) pa_nil))) pa_nil)) (by rfl))
    (pss_cons (ps_set (i := 6) sc_law_piece.nd rfl (Or.inl rfl) (pe_op op_add_str (pe_slice C8.sl_txt (pv 1) (po_some (pv 5)) po_none) (pe_slice C8.sl_txt (pv 1) po_none (po_some (pv 5)))))
    (pss_cons (ps_if (pt_cmpR op_eq (pv 4) pe_int (nomark _))
    (pss_one (ps_set (i := 6) sc_law_piece.nd rfl (Or.inl rfl) (pe_op op_add_str (pv 6) (pv 6))))
    (pss_one (ps_if (pt_cmpR op_eq (pv 4) pe_int (nomark _))
    (pss_one (ps_set (i := 6) sc_law_piece.nd rfl (Or.inl rfl) (pe_slice C8.sl_txt (pv 1) po_none (po_some (pv 5)))))
    (pss_one (ps_if (pt_cmpR op_lt (pv 4) pe_int (nomark _))
    (pss_one (ps_set (i := 6) sc_law_piece.nd rfl (Or.inl rfl) (C8.pe_c (c_law_word T) hr (by decide) (by rfl) (pa_cons (pv 0) (pa_cons pe_int pa_nil)))))
    pss_nil)))))
    (pss_cons (ps_set (i := 7) sc_law_piece.nd rfl (Or.inl rfl) (pe_lst (pa_cons (C8.pe_c (c_law_random T) hr (by decide) (by rfl) (pa_cons (pv 0) (pa_cons pe_int pa_nil))) pa_nil)))
    (pss_cons (ps_for PassesOwn.never rfl (pi_range1 (by rfl) T.m_range (pa_cons (pv 2) pa_nil)) (pg_name (i := 8) sc_law_piece.nd rfl (Or.inl rfl))
    (pss_cons (ps_set (i := 9) sc_law_piece.nd rfl (Or.inl rfl) (C8.pe_c (c_law_random T) hr (by decide) (by rfl) (pa_cons (pv 0) (pa_cons pe_int pa_nil))))
    (pss_cons (ps_if (PW.pt (pw_and (pt_truth (pv 3) (by intro _; rfl)) (pw_and (pt_cmpR op_gt (pv 9) pe_int (nomark _)) (pw_and1 (pt_cmpR op_eq (C8.pe_c (c_law_random T) hr (by decide) (by rfl) (pa_cons (pv 0) (pa_cons pe_int pa_nil))) pe_int (nomark _))))))
    (pss_one (ps_set (i := 9) sc_law_piece.nd rfl (Or.inl rfl) (pe_op op_add (C8.pe_c (c_law_random T) hr (by decide) (by rfl) (pa_cons (pv 0) (pa_cons (pe_op op_powB pe_int pe_int) pa_nil))) pe_int)))
    pss_nil)
    (pss_one (ps_expr (pe_bm PySem.F.plainAttrs_list PySem.F.slot_list_append PySem.F.type_list_append mt_append (pv 7) (pa_cons (pe_ifExp (pt_cmpR op_eq (C8.pe_c (c_law_random T) hr (by decide) (by rfl) (pa_cons (pv 0) (pa_cons pe_int pa_nil))) pe_int (nomark _)) (pv 9) pe_int) pa_nil)))))))
    (pss_one (ps_ret (pe_tup (pa_cons (pv 6) (pa_cons (pe_callTy call_tupL (by rfl) T.m_tuple (by decide +kernel) (pa_cons (pv 7) pa_nil)) pa_nil)))))))))), ?_⟩
    refine ⟨_, rfl, g, 6, n + 99, rfl, G, by decide, by decide, fun kd H1 s1 G1 k0 k1 => ⟨_, rfl, _, rfl, S b, rfl, len_line (by omega), g, (b.length : Nat), n + 98, by rw [S_len]; rfl, G1, by omega, by omega, fun by_ H2 s2 G2 y0 y1 => ⟨_, _, rfl, ?_⟩⟩⟩
    obtain ⟨y, rfl⟩ : ∃ y : Nat, by_ = y := ⟨by_.toNat, by omega⟩
    refine ⟨_, rfl, _, rfl, y, rfl, S b, rfl, len_line (by omega), _, rfl, _, rfl, y, rfl, S b, rfl, len_line (by omega), ?_⟩
    rw [SX.slice_from (by omega), SX.slice_to (by omega), Int.toNat_natCast]
    have abr : AB (b.drop y ++ b.take y) := AB.app (fun c hc => ab c (List.mem_of_mem_drop hc)) fun c hc => ab c (List.mem_of_mem_take hc)
    have abt : AB (b.take y) := fun c hc => ab c (List.mem_of_mem_take hc)
    have lbr : (b.drop y ++ b.take y).length ≤ 5 := by rw [List.length_append, List.length_drop, List.length_take]; omega
    refine ⟨_, _, rfl, rfl, by rw [S_len, S_len, List.length_drop, List.length_take, sizeLine_eq]; omega, ?_⟩
    rw [S_cat]
    dsimp only
    rw [gname_eq]
    generalize b.drop y ++ b.take y = br at abr lbr ⊢
    refine joinS (a := tIfS _ _ _) (fun σ' Hx => ∃ w : List Nat, σ' = [some (.ref g), some (.str (S b)), some (.int (m : Nat)), some (.bl true), some (.int kd), some (.int (y : Nat)), some (.str (S w)), none, none, none] ∧ SameX g H2 Hx ∧ Gn (n + 40) Hx g ∧ AB w ∧ w.length ≤ 10) (fun σ' Hx p => ?_) fun U hU => ?_
    · obtain ⟨w, rfl, sx, Gx, aw, lw⟩ := p
      refine ⟨_, rfl, g, 3, n + 39, rfl, Gx, by decide, by decide, fun a0 H4 s4 G4 z0 z1 => ⟨by show 1 ≤ sizeLine; decide, fun L nL => ?_⟩⟩
      obtain ⟨a, rfl⟩ : ∃ a : Nat, a0 = a := ⟨a0.toNat, by omega⟩
      have Lg := Gn.ne G4 nL
      have s24 : SameX g H H4 := s1.trans (s2.trans (sx.trans s4))
      have sL := sameNew (o := .lst [.int (a : Nat)]) nL
      have hL : upd H4 L (.lst [.int (a : Nat)]) L = some (.lst [.int (a : Nat)]) := upd_same
      have x5 : SameX g H4 (upd H4 L (.lst [.int (a : Nat)])) := .of sL
      have G5 := G4.same sL
      have nLH : H4 L = none := nL
      generalize upd H4 L (.lst [.int (a : Nat)]) = H5 at sL hL x5 G5 ⊢
      dsimp only
      rw [gname_eq]
      refine ⟨_, rfl, (m : Int), rfl, by omega, by omega, ?_⟩
      refine for_it walk_range (fun i σ H' => SameX g H4 H' ∧ Gn (n + 10 * (m - i)) H' g ∧ (∃ ns : List Nat, H' L = some (.lst (natsV (a :: ns))) ∧ ns.length = i ∧ ∀ x ∈ ns, x ≤ 10 ^ 18) ∧ i ≤ m ∧ ∃ y8 y9, σ = [some (.ref g), some (.str (S b)), some (.int (m : Nat)), some (.bl true), some (.int kd), some (.int (y : Nat)), some (.str (S w)), some (.ref L), y8, y9]) ⟨x5, G5.le (by omega), ⟨[], hL, rfl, fun x h => nomatch h⟩, by omega, none, none, rfl⟩ (fun _ _ _ _ _ => True.intro) (fun i x σ H' H'' hi p y' => ?_) fun σ H' p => ?_
      · obtain ⟨x6, G6, ⟨ns, hLn, ln, bn⟩, _, y8, y9, rfl⟩ := p
        obtain ⟨rfl, rfl⟩ := y'
        have im : i < m := by
          have : i < ((m : Int)).toNat := hi
          omega
        obtain ⟨n0', en⟩ : ∃ n', n + 10 * (m - i) = n' + 10 ∧ n' = n + 10 * (m - (i + 1)) := ⟨_, by omega, rfl⟩
        rw [en.1] at G6
        rw [gname_eq]
        refine ⟨_, rfl, g, 3, n0' + 9, rfl, G6, by decide, by decide, fun c0 H7 s7 G7 t0 t1 => ?_⟩
        obtain ⟨c, rfl⟩ : ∃ c : Nat, c0 = c := ⟨c0.toNat, by omega⟩
        dsimp only
        rw [gname_eq]
        refine joinS (a := tIfS _ _ _) (fun σ' Hx => ∃ k : Nat, σ' = [some (.ref g), some (.str (S b)), some (.int (m : Nat)), some (.bl true), some (.int kd), some (.int (y : Nat)), some (.str (S w)), some (.ref L), some (.int (0 + ((i : Nat) : Int))), some (.int (k : Nat))] ∧ SameX g H7 Hx ∧ Gn (n0' + 5) Hx g ∧ k ≤ 10 ^ 18) (fun σ' Hx p => ?_) fun U hU => ?_
        · obtain ⟨k, rfl, s8, G8, kb⟩ := p
          have s68 := s7.trans s8
          have hL8 := s68 _ _ Lg hLn
          refine ⟨_, rfl, .inl ⟨rfl, _, .inl (.inl hL8)⟩, _, rfl, g, 2, n0' + 4, rfl, G8, by decide, by decide, fun e H9 s9 G9 e0 e1 => ⟨rfl, _, rfl, ?_⟩⟩
          have hL9 := s9 _ _ Lg hL8
          have ea : ∀ v : Nat, natsV (a :: ns) ++ [V.int (v : Nat)] = natsV (a :: (ns ++ [v])) := fun v => by
            unfold natsV
            rw [← List.cons_append, List.map_append]
            rfl
          have fin : ∀ v : Nat, v ≤ 10 ^ 18 → SameX g H4 (upd H9 L (.lst (natsV (a :: ns) ++ [.int (v : Nat)]))) ∧ Gn (n + 10 * (m - (i + 1))) (upd H9 L (.lst (natsV (a :: ns) ++ [.int (v : Nat)]))) g ∧ (∃ ms : List Nat, upd H9 L (.lst (natsV (a :: ns) ++ [.int (v : Nat)])) L = some (.lst (natsV (a :: ms))) ∧ ms.length = i + 1 ∧ ∀ x ∈ ms, x ≤ 10 ^ 18) := fun v hv =>
            ⟨((x6.trans s68).trans s9).upd2 nLH, (G9.le (by omega)).upd Lg, ns ++ [v], by rw [upd_same, ea], by rw [List.length_append, ln]; rfl, fun x hx => by
              rcases List.mem_append.mp hx with z | z
              · exact bn x z
              · rw [List.mem_singleton.mp z]; exact hv⟩
          by_cases e2 : e = 0
          · rw [decide_eq_true (congrArg V.int e2)]
            refine iteT ⟨_, rfl, L, _, _, rfl, rfl, hL9, by rw [natsV_len, List.length_cons, sizeLine_eq]; omega, ?_⟩
            obtain ⟨f1, f2, f3⟩ := fin k kb
            exact ⟨f1, f2, f3, by omega, _, _, rfl⟩
          · rw [decide_eq_false (fun z => e2 (V.int.inj z))]
            refine iteF ⟨L, _, _, rfl, rfl, hL9, by rw [natsV_len, List.length_cons, sizeLine_eq]; omega, ?_⟩
            obtain ⟨f1, f2, f3⟩ := fin 0 (by omega)
            exact ⟨f1, f2, f3, by omega, _, _, rfl⟩
        · refine ⟨_, rfl, true, rfl, iteT ⟨_, rfl, _, _, rfl, rfl, _, rfl, ?_⟩⟩
          by_cases c2 : (0 : Int) < (c : Nat)
          · rw [decide_eq_true c2]
            refine iteT ⟨_, rfl, g, 6, n0' + 8, rfl, G7, by decide, by decide, fun d H8 s8 G8 d0 d1 => ⟨rfl, _, rfl, ?_⟩⟩
            by_cases d2 : d = 0
            · rw [decide_eq_true (congrArg V.int d2)]
              refine iteT ⟨_, rfl, 10, 18, rfl, rfl, ⟨by decide, by decide⟩, g, _, n0' + 7, rfl, G8, by decide, by decide, fun e H9 s9 G9 e0 e1 => ⟨e, 1, rfl, rfl, hU _ _ ⟨e.toNat + 1, ?_, s8.trans s9, G9.le (by omega), ?_⟩⟩⟩
              · rw [show ((e.toNat + 1 : Nat) : Int) = e + 1 by omega]
                rfl
              · have e1 : e < 10 ^ 18 := e1
                omega
            · rw [decide_eq_false (fun z => d2 (V.int.inj z))]
              exact iteF (hU _ _ ⟨c, rfl, s8, G8.le (by omega), by omega⟩)
          · rw [decide_eq_false c2]
            exact iteF (hU _ _ ⟨c, rfl, .refl _ _, G7.le (by omega), by omega⟩)
      · obtain ⟨x6, G6, ⟨ns, hLn, ln, bn⟩, _, y8, y9, rfl⟩ := p
        rw [Int.toNat_natCast] at ln
        refine ⟨_, rfl, _, rfl, L, _, rfl, hLn, fun fa H7 s7 h7 => ⟨by show 2 ≤ sizeLine; decide, fun t nt => ?_⟩⟩
        have st := sameNew (o := .tup [.str (S w), .ref fa]) nt
        exact q t (w, a :: ns) _ (s24.trans (x6.trans (.of (s7.trans st)))) ((G6.same (s7.trans st)).le (by omega)) ⟨fa, upd_same, st _ _ h7⟩ ⟨by rw [List.length_cons, ln], lw, aw, by show a ≤ 2; omega, fun x hx => by
          rcases List.mem_cons.mp hx with rfl | hx
          · have : 2 ≤ 10 ^ 18 := by decide
            omega
          · exact bn x hx⟩
    · refine ⟨_, rfl, rfl, _, rfl, ?_⟩
      by_cases e0 : kd = 0
      · rw [decide_eq_true (congrArg V.int e0)]
        refine iteT ⟨_, rfl, _, rfl, _, _, rfl, rfl, by rw [S_len, sizeLine_eq]; omega, ?_⟩
        rw [S_cat]
        exact hU _ _ ⟨_, rfl, .refl _ _, G2.le (by omega), abr.app abr, by rw [List.length_append]; omega⟩
      · rw [decide_eq_false (fun z => e0 (V.int.inj z))]
        refine iteF ⟨_, rfl, rfl, _, rfl, ?_⟩
        by_cases e1 : kd = 1
        · rw [decide_eq_true (congrArg V.int e1)]
          refine iteT ⟨_, rfl, _, rfl, y, rfl, S b, rfl, len_line (by omega), ?_⟩
          rw [SX.slice_to (by omega), Int.toNat_natCast]
          exact hU _ _ ⟨_, rfl, .refl _ _, G2.le (by omega), abt, by rw [List.length_take]; omega⟩
        · rw [decide_eq_false (fun z => e1 (V.int.inj z))]
          refine iteF ⟨_, rfl, _, _, rfl, rfl, _, rfl, ?_⟩
          by_cases e4 : kd < 4
          · rw [decide_eq_true e4]
            refine iteT ⟨_, rfl, g, 4, n + 40, rfl, by decide, G2.le (by omega), fun z H3 s3 G3 az lz => hU _ _ ⟨z, rfl, s3, G3, az, by omega⟩⟩
          · rw [decide_eq_false e4]
            exact iteF (hU _ _ ⟨_, rfl, .refl _ _, G2.le (by omega), abr, by omega⟩)
end
end K59

set_option Elab.async false
set_option linter.all false
set_option maxRecDepth 100000
set_option maxHeartbeats 4000000
set_option exponentiation.threshold 3000
namespace K59
open K59 PySem PySem.Spec PyProof.Rows L2 CK SX NM
open K59W (gname_eq tnext_eq c_law_random sp_random c_law_generator)
def baseL : List (List Nat) := [[97, 98], [97, 97, 98], [97], [97, 98, 98], [97, 97, 98, 97, 98]]
theorem baseL_eq : [V.str (Str.ofString "ab"), V.str (Str.ofString "aab"), V.str (Str.ofString "a"), V.str (Str.ofString "abb"), V.str (Str.ofString "aabab")] = baseL.map fun z => V.str (S z) := by
  unfold baseL
  rw [show Str.ofString "ab" = S [97, 98] by decide +kernel, show Str.ofString "aab" = S [97, 97, 98] by decide +kernel, show Str.ofString "a" = S [97] by decide +kernel, show Str.ofString "abb" = S [97, 98, 98] by decide +kernel, show Str.ofString "aabab" = S [97, 97, 98, 97, 98] by decide +kernel]
  rfl
theorem baseL_ok : ∀ z ∈ baseL, z ≠ [] ∧ z.length ≤ 5 ∧ ∀ c ∈ z, c = 97 ∨ c = 98 := by decide
theorem pcs_of {H : Hp} {R : Pn → Prop} : ∀ {vs : List V}, (∀ v ∈ vs, ∃ a p, v = V.ref a ∧ PC H a p ∧ R p) → ∃ ps : List Pn, Pcs H vs ps ∧ ∀ p ∈ ps, R p
  | [], _ => ⟨[], .nil, fun c h => nomatch h⟩
  | v :: r, h => by
    obtain ⟨a, p, rfl, hp, hr⟩ := h v List.mem_cons_self
    obtain ⟨ps, h1, h2⟩ := pcs_of (H := H) (R := R) (vs := r) fun x hx => h x (List.mem_cons_of_mem _ hx)
    exact ⟨p :: ps, .cons hp h1, fun x hx => (List.mem_cons.mp hx).elim (fun e => by rw [e]; exact hr) (h2 x)⟩
theorem gl_of {H : Hp} {m : Nat} {l : Addr} {vs : List V} {ps : List Pn} (hl : H l = some (.lst vs)) (hp : Pcs H vs ps) (hd : ∀ p ∈ ps, DrP m p) (few : ps.length ≤ 100) : GL H m l ps :=
  ⟨⟨vs, hl, hp⟩, fun p h => (hd p h).len, fun p h => by have := (hd p h).wl; omega, fun p h => (hd p h).ab.low, fun p h x hx => Nat.lt_of_le_of_lt ((hd p h).num x hx) (Nat.lt_of_lt_of_le (show 10 ^ 18 < 2 ^ 64 by decide) (Nat.pow_le_pow_right (by decide) (by decide))), by omega⟩
section
variable {P : Program} {w : World} {K : PySem.W.Frag} {mg : Str → Option Value} {base : Heap} {C E_InvalidText E_InvalidNumber E_TooMany E_CountError : Addr}
def sp_rawP : Sp := fun vs H Q _ => ∃ (g : Addr) (m n : Nat), vs = [.ref g, .int m, .int 4, .bl true] ∧ m ≤ 3 ∧ Gn (n + 500) H g ∧ ∀ (l : Addr) (ps : List Pn) H', SameX g H H' → Gn n H' g → l ≠ g → GL H' m l ps → ps.length ≤ 4 → (∀ p ∈ ps, DrP m p) → Q (.ref l) H'
theorem c_law_pieces (T : Txt K mg C E_InvalidText E_InvalidNumber E_TooMany E_CountError) : C8.Cal P w K mg base 5 "_law_pieces" sp_rawP [] := by
  refine calF T.d_law_pieces sc_law_pieces (fun vs H Q E h => ?_) (fun f cdv A outer s H vs Q E hr h => ?_)
  · obtain ⟨_, _, _, rfl, _⟩ := h; rfl
  · obtain ⟨g, m, n, rfl, m3, G, q⟩ := h
    refine ⟨_, (pss_cons (ps_set (i := 4) sc_law_pieces.nd rfl (Or.inr rfl) (pe_ix ix_list (pe_lst (pa_cons pe_str (pa_cons pe_str (pa_cons pe_str (pa_cons pe_str (pa_cons pe_str pa_nil)))))) (C8.pe_c (c_law_random T) hr (by decide) (by rfl) (pa_cons (pv 0) (pa_cons pe_int pa_nil))) (fun _ _ => rfl)))
    (pss_one (ps_ret (pe_lc (own := [("_law_turn", 5)]) (by rfl) sc_law_pieces.nd (pi_range1 (by rfl) T.m_range (pa_cons (C8.pe_c (c_law_random T) hr (by decide) (by rfl) (pa_cons (pv 0) (pa_cons (pe_op op_add (pv 2) pe_int) pa_nil))) pa_nil)) (blkOk_by (N := ["_law_generator_here", "_law_many", "_law_most", "_law_great", "_law_base", "_law_turn"]) (sc := C8.fnScope (topS 61)) (own := [("_law_turn", 5)]) (by decide +kernel)) (fun _ _ _ _ _ => (pg_name (i := 5) sc_law_pieces.nd rfl (Or.inl rfl))) (fun _ _ _ _ _ => pts_nil) (fun _ _ _ _ _ => (C8.pe_c (c_law_piece T) hr (by decide) (by rfl) (pa_cons (pv 0) (pa_cons (pv 4) (pa_cons (pv 1) (pa_cons (pv 3) pa_nil)))))))))), ?_⟩
    refine ⟨by show 5 ≤ sizeLine; decide, fun lb nlb => ?_⟩
    rw [baseL_eq]
    have s1 := sameNew (o := .lst (baseL.map fun z => V.str (S z))) nlb
    have hb : upd H lb (.lst (baseL.map fun z => V.str (S z))) lb = some (.lst (baseL.map fun z => V.str (S z))) := upd_same
    have G1 := G.same s1
    have lg := Gn.ne G nlb
    generalize upd H lb (.lst (baseL.map fun z => V.str (S z))) = H1 at s1 hb G1 ⊢
    refine ⟨_, rfl, g, 5, n + 499, rfl, G1, by decide, by decide, fun i0 H2 s2 G2 z0 z1 => ?_⟩
    obtain ⟨i, rfl⟩ : ∃ i : Nat, i0 = i := ⟨i0.toNat, by omega⟩
    have hi : i < baseL.length := by show i < 5; omega
    obtain ⟨b, hbi⟩ : ∃ b, baseL[i]? = some b := ⟨_, List.getElem?_eq_getElem hi⟩
    obtain ⟨bne, bl, bab⟩ := baseL_ok b (List.mem_of_getElem? hbi)
    refine ⟨lb, _, i, .str (S b), rfl, rfl, .inl (.inl (s2 _ _ lg hb)), atI_nat (by rw [List.getElem?_map, hbi]; rfl), ?_⟩
    dsimp only
    rw [gname_eq]
    refine ⟨_, rfl, _, rfl, 4, 1, rfl, rfl, g, 5, n + 498, rfl, G2, by decide, by decide, fun c H3 s3 G3 c0 c1 => ⟨c, rfl, by omega, by omega, fun D hD => ?_⟩⟩
    refine lcH_draw 100 (lo := 0) (g := g) (n := n) (cnt := c.toNat) (fun v H => ∃ a p, v = V.ref a ∧ PC H a p ∧ DrP m p) (fun v H H' m ⟨a, p, e, h, d⟩ => ⟨a, p, e, h.mono m, d⟩) (by rw [sizeLine_eq]; omega) hD (G3.le (by omega)) (fun j H6 R hj s6 G6 q' => ?_) fun H7 ns s7 G7 hL hln hP => ?_
    · exact ⟨rfl, _, rfl, _, rfl, _, rfl, _, rfl, g, b, m, _, rfl, G6, m3, bne, bl, bab, fun a p H8 s8 G8 pc dr => q' _ H8 s8 G8 ⟨a, p, rfl, pc, dr⟩⟩
    · obtain ⟨ps, hps, hd⟩ := pcs_of hP
      have few : ps.length ≤ 4 := by rw [← hps.len, hln]; omega
      exact q D ps H7 ((SameX.of s1).trans (s2.trans (s3.trans s7))) G7 (Gn.ne G3 hD) (gl_of hL hps hd (by omega)) few hd
end
end K59

set_option Elab.async false
set_option linter.all false
set_option maxRecDepth 100000
set_option maxHeartbeats 4000000
set_option exponentiation.threshold 3000
namespace K59
open K59 PySem PySem.Spec PyProof.Rows L2 CK SX NM
open K59W (gname_eq tnext_eq c_law_random sp_random c_law_generator)
theorem dot_sum : ∀ (r pt : List Nat), r.length = pt.length → ((List.range pt.length).map fun i => (((r.getD i 0 : Nat) : Int) * ((pt.getD i 0 : Nat) : Int))).sum = ((dot r pt : Nat) : Int)
  | [], [], _ => rfl
  | [], _ :: _, h => by cases h
  | _ :: _, [], h => by cases h
  | a :: r, b :: pt, h => by
    have ih := dot_sum r pt (by simpa using h)
    rw [List.length_cons, List.range_succ_eq_map, List.map_cons, List.sum_cons, List.map_map]
    have e : (List.map ((fun i => (((a :: r).getD i 0 : Nat) : Int) * (((b :: pt).getD i 0 : Nat) : Int)) ∘ Nat.succ) (List.range pt.length)) = (List.range pt.length).map fun i => (((r.getD i 0 : Nat) : Int) * ((pt.getD i 0 : Nat) : Int)) := rfl
    rw [e, ih]
    show ((a : Int) * (b : Int)) + _ = ((a * b + dot r pt : Nat) : Int)
    rw [Int.natCast_add, Int.natCast_mul]
section
variable {P : Program} {w : World} {K : PySem.W.Frag} {mg : Str → Option Value} {base : Heap} {C E_InvalidText E_InvalidNumber E_TooMany E_CountError : Addr}
def sp_lvalue : Sp := fun vs H Q _ => ∃ (fa pa : Addr) (f : F) (pt : List Nat), vs = [.ref fa, .ref pa] ∧ FT H fa f ∧ LP H pa pt ∧ f.length = pt.length + 1 ∧ pt.length ≤ 3 ∧ (∀ x ∈ f, x < 2 ^ 150) ∧ (∀ x ∈ pt, x < 2 ^ 110) ∧ ∀ H', Same H H' → Q (.int (valF f pt : Nat)) H'
theorem c_law_value (T : Txt K mg C E_InvalidText E_InvalidNumber E_TooMany E_CountError) : C8.Cal P w K mg base 1 "_law_value" sp_lvalue [] := by
  refine calF T.d_law_value sc_law_value (fun vs H Q E h => ?_) (fun fv cdv A outer s H vs Q E hr h => ?_)
  · obtain ⟨_, _, _, _, rfl, _⟩ := h; rfl
  · obtain ⟨fa, pa, f, pt, rfl, hf, hp, lf, l3, bf, bp, q⟩ := h
    obtain ⟨c, r, rfl⟩ : ∃ c r, f = c :: r := by
      match f, lf with
      | c :: r, _ => exact ⟨c, r, rfl⟩
    have lr : r.length = pt.length := by simpa using lf
    have hf : H fa = some (.tup (natsV (c :: r))) := hf
    have hp : H pa = some (.lst (natsV pt)) := hp
    refine ⟨_, (pss_one (ps_ret (pe_op op_add (pe_ix ix_tup (pv 0) pe_int (fun _ _ => rfl)) (pe_callB (cr_sum rfl) (by rfl) T.m_sum (by decide +kernel) (pa_cons (pe_lc (own := [("_law_at", 2)]) (by rfl) sc_law_value.nd (pi_range1 (by rfl) T.m_range (pa_cons (pe_callB call_len_seq (by rfl) T.m_len (by decide +kernel) (pa_cons (pv 1) pa_nil)) pa_nil)) (blkOk_by (N := ["_law_form", "_law_point", "_law_at"]) (sc := C8.fnScope (topS 62)) (own := [("_law_at", 2)]) (by decide +kernel)) (fun _ _ _ _ _ => (pg_name (i := 2) sc_law_value.nd rfl (Or.inl rfl))) (fun _ _ _ _ _ => pts_nil) (fun _ _ _ _ _ => (pe_op op_mulW (pe_ix ix_tupH (pv 0) (pe_op op_add (pv 2) pe_int) (fun _ _ => rfl)) (pe_ix ix_listH (pv 1) (pv 2) (fun _ _ => rfl))))) pa_nil))))), ?_⟩
    refine ⟨_, rfl, fa, _, 0, .int (c : Nat), rfl, rfl, .inl (.inl hf), atI_nat (j := 0) rfl, ?_⟩
    refine ⟨_, rfl, pa, _, rfl, .inl (.inl (.inl hp)), _, rfl, by omega, by rw [natsV_len]; omega, fun D hD => ?_⟩
    rw [natsV_len, Int.toNat_natCast]
    refine lcR_map (lo := 0) (n := pt.length) (fun i => V.int (((r.getD i 0 : Nat) : Int) * ((pt.getD i 0 : Nat) : Int))) (by rw [sizeLine_eq]; omega) (fun i H1 R hi s1 q' => ?_) hD fun H1 s1 hL => ?_
    · have hi' : i < r.length := by omega
      have g1 : r[i]? = some (r.getD i 0) := by rw [List.getD_eq_getElem?_getD, List.getElem?_eq_getElem hi']; rfl
      have g2 : pt[i]? = some (pt.getD i 0) := by rw [List.getD_eq_getElem?_getD, List.getElem?_eq_getElem hi]; rfl
      have b1 := bf _ (List.mem_cons_of_mem _ (List.mem_of_getElem? g1))
      have b2 := bp _ (List.mem_of_getElem? g2)
      have g3 : (natsV (c :: r))[i + 1]? = some (.int (r.getD i 0 : Nat)) := natsV_get (by rw [List.getElem?_cons_succ]; exact g1)
      have e1 : (0 : Int) + (i : Int) + 1 = ((i + 1 : Nat) : Int) := by omega
      refine ⟨rfl, _, rfl, _, rfl, _, _, rfl, rfl, fa, _, _, .int (r.getD i 0 : Nat), rfl, rfl, s1 _ _ hf, by rw [e1]; exact atI_nat g3, _, rfl, _, rfl, pa, _, _, .int (pt.getD i 0 : Nat), rfl, rfl, s1 _ _ hp, by rw [Int.zero_add]; exact atI_nat (natsV_get g2), _, _, rfl, rfl, wide_mul (a := 150) (b := 110) (by rw [Int.natAbs_natCast]; exact b1) (by rw [Int.natAbs_natCast]; exact b2) (by decide) (by decide) (by decide), q' _ (Same.refl _)⟩
    · refine ⟨D, (List.range pt.length).map fun i => (((r.getD i 0 : Nat) : Int) * ((pt.getD i 0 : Nat) : Int)), rfl, .inl (.inl (by rw [hL, List.map_map]; rfl)), _, _, rfl, rfl, ?_⟩
      rw [dot_sum r pt lr]
      dsimp only
      rw [← Int.natCast_add]
      exact q H1 s1
end
end K59

set_option Elab.async false
set_option linter.all false
set_option maxRecDepth 100000
set_option maxHeartbeats 4000000
set_option exponentiation.threshold 3000
namespace K59
open K59 PySem PySem.Spec PyProof.Rows L2 CK SX NM
open K59W (gname_eq tnext_eq c_law_random sp_random c_law_generator)
section
variable {P : Program} {w : World} {K : PySem.W.Frag} {mg : Str → Option Value} {base : Heap} {C E_InvalidText E_InvalidNumber E_TooMany E_CountError : Addr}
def sp_lpoints : Sp := fun vs H Q _ => ∃ (m N : Nat), vs = [.int m, .int N] ∧ m ≤ 3 ∧ N ≤ 100 ∧ (N + 1) ^ m ≤ 10000 ∧ ∀ D H', Same H H' → PqL H' D (box m N) → Q (.ref D) H'
theorem c_law_points (T : Txt K mg C E_InvalidText E_InvalidNumber E_TooMany E_CountError) : C8.Cal P w K mg base 1 "_law_points" sp_lpoints [] := by
  refine calF T.d_law_points sc_law_points (fun vs H Q E h => ?_) (fun f cdv A outer s H vs Q E hr h => ?_)
  · obtain ⟨_, _, rfl, _⟩ := h; rfl
  · obtain ⟨m, N, rfl, m3, hN, big, q⟩ := h
    refine ⟨_, (pss_cons (ps_set (i := 2) sc_law_points.nd rfl (Or.inl rfl) (pe_lst (pa_cons (pe_lst pa_nil) pa_nil)))
    (pss_cons (ps_for PassesOwn.never rfl (pi_range1 (by rfl) T.m_range (pa_cons (pv 0) pa_nil)) (pg_name (i := 3) sc_law_points.nd rfl (Or.inl rfl))
    (pss_cons (ps_set (i := 4) sc_law_points.nd rfl (Or.inl rfl) (pe_lst pa_nil))
    (pss_cons (ps_for PassesOwn.never rfl (pi_list (pv 2)) (pg_name (i := 5) sc_law_points.nd rfl (Or.inl rfl))
    (pss_one (ps_for PassesOwn.never rfl (pi_range1 (by rfl) T.m_range (pa_cons (pe_op op_add (pv 1) pe_int) pa_nil)) (pg_name (i := 6) sc_law_points.nd rfl (Or.inl rfl))
    (pss_one (ps_expr (pe_bm PySem.F.plainAttrs_list PySem.F.slot_list_append PySem.F.type_list_append mt_append (pv 4) (pa_cons (pe_op op_cat (pv 5) (pe_lst (pa_cons (pv 6) pa_nil))) pa_nil)))))))
    (pss_one (ps_set (i := 2) sc_law_points.nd rfl (Or.inl rfl) (pv 4))))))
    (pss_one (ps_ret (pv 2))))), ?_⟩
    refine ⟨by show 0 ≤ sizeLine; decide, fun l0 n0 => ⟨by show 1 ≤ sizeLine; decide, fun D0 nD0 => ?_⟩⟩
    have s0 := sameNew (o := .lst []) n0
    have h0 : upd H l0 (.lst []) l0 = some (.lst (natsV [])) := upd_same
    generalize upd H l0 (.lst []) = H0 at s0 h0 nD0 ⊢
    have s1 := sameNew (o := .lst [.ref l0]) nD0
    have h1 : PqL (upd H0 D0 (.lst [.ref l0])) D0 (box 0 N) := ⟨_, upd_same, .cons (s1 _ _ h0) .nil⟩
    generalize upd H0 D0 (.lst [.ref l0]) = H1 at s1 h1 ⊢
    have s01 := s0.trans s1
    refine ⟨_, rfl, (m : Int), rfl, by omega, by omega, ?_⟩
    refine for_it walk_range (fun i σ HH => Same H1 HH ∧ i ≤ m ∧ ∃ (D : Addr) (y3 y4 y5 y6 : Option V), σ = [some (.int (m : Nat)), some (.int (N : Nat)), some (.ref D), y3, y4, y5, y6] ∧ PqL HH D (box i N))
      ⟨.refl _, Nat.zero_le _, D0, none, none, none, none, rfl, h1⟩ (fun _ _ _ _ _ => True.intro) (fun i v σ HH HH' hi p yy => ?_) fun σ HH p => ?_
    · obtain ⟨sH, _, D, y3, y4, y5, y6, rfl, vs, hvs, pvs⟩ := p
      obtain ⟨rfl, rfl⟩ := yy
      have im : i < m := by
        have : i < ((m : Int)).toNat := hi
        omega
      have lvs := pvs.len
      have bigI : (N + 1) ^ (i + 1) ≤ 10000 := Nat.le_trans (Nat.pow_le_pow_right (by omega) (show i + 1 ≤ m by omega)) big
      have lbx := len_box N (i + 1)
      rw [show box (i + 1) N = bstep N (box i N) from rfl] at lbx
      rw [gname_eq]
      refine ⟨by show 0 ≤ sizeLine; decide, fun Dn hDn => ?_⟩
      have sn := sameNew (o := .lst []) hDn
      dsimp only
      rw [gname_eq]
      refine ⟨_, rfl, D, rfl, ⟨_, .inl (.inl (sn _ _ hvs))⟩, for_list (K := K) (D := { nx := _, rt := Q, bk := fun _ _ => False, ct := fun _ _ => False }) (a := D) (xs := vs) (fun ii σ HB => Same HH' HB ∧ ∃ (y5 y6 : Option V) (ws : List V), σ = [some (.int (m : Nat)), some (.int (N : Nat)), some (.ref D), some (.int (0 + ((i : Nat) : Int))), some (.ref Dn), y5, y6] ∧ HB Dn = some (.lst ws) ∧ Pq HB ws (bstep N ((box i N).take ii)) ∧ ∀ l, V.ref l ∈ ws → l ≠ Dn)
        ⟨sn, _, _, [], rfl, upd_same, .nil, fun v hv => (by cases hv)⟩ (fun ii σ HB _ p => .inl (.inl (p.1 _ _ hvs))) (fun ii v σ HB hv p => ?_) fun σ HB p => ?_⟩
      · obtain ⟨sB, y5, y6, ws, rfl, hws, pws, far⟩ := p
        obtain ⟨l, pt, rfl, hpt, hlp⟩ := pvs.get hv
        have lle : (bstep N ((box i N).take (ii + 1))).length ≤ 10000 := by
          rw [len_bstep, List.length_take]
          rw [len_bstep] at lbx
          exact Nat.le_trans (Nat.mul_le_mul_right _ (Nat.min_le_right _ _)) (by omega)
        rw [take_bstep hpt, List.length_append, List.length_map, List.length_range] at lle
        rw [gname_eq]
        refine ⟨_, rfl, _, _, rfl, rfl, _, rfl, by omega, by omega, ?_⟩
        refine for_it walk_range (fun jj σ HC => Same HH' HC ∧ jj ≤ N + 1 ∧ ∃ (y6 : Option V) (ws : List V), σ = [some (.int (m : Nat)), some (.int (N : Nat)), some (.ref D), some (.int (0 + ((i : Nat) : Int))), some (.ref Dn), some (.ref l), y6] ∧ HC Dn = some (.lst ws) ∧ Pq HC ws (bstep N ((box i N).take ii) ++ (List.range jj).map fun k => pt ++ [k]) ∧ ∀ l, V.ref l ∈ ws → l ≠ Dn)
          ⟨sB, Nat.zero_le _, _, ws, rfl, hws, by simpa using pws, far⟩ (fun _ _ _ _ _ => True.intro) (fun jj v σ HC HC' hj p yy => ?_) fun σ HC p => ?_
        · obtain ⟨sC, _, y6, ws, rfl, hws, pws, far⟩ := p
          obtain ⟨rfl, rfl⟩ := yy
          have jN : jj < N + 1 := by
            have : jj < ((N : Int) + 1).toNat := hj
            omega
          have hlC : HC' l = some (.lst (natsV pt)) := sC _ _ hlp
          have lws := pws.len
          rw [List.length_append, List.length_map, List.length_range] at lws
          have lpt : pt.length = i := (mem_box.mp (List.mem_of_getElem? hpt)).1
          rw [gname_eq]
          refine ⟨_, rfl, .inl ⟨rfl, _, .inl (.inl hws)⟩, _, rfl, _, rfl, by show 1 ≤ sizeLine; decide, fun l1 n1' => ?_⟩
          have st1 := sameNew (o := .lst [.int (0 + (jj : Int))]) n1'
          refine ⟨l, l1, _, _, rfl, rfl, st1 _ _ hlC, upd_same, by rw [natsV_len, sizeLine_eq]; simp; omega, fun l2 n2' => ?_⟩
          have st2 := sameNew (o := .lst (natsV pt ++ [.int (0 + (jj : Int))])) n2'
          have sE := st1.trans st2
          have hwE := sE _ _ hws
          have l2D : l2 ≠ Dn := fun z => by rw [z, st1 _ _ hws] at n2'; cases n2'
          have e2 : natsV pt ++ [V.int (0 + (jj : Int))] = natsV (pt ++ [jj]) := by
            unfold natsV
            rw [List.map_append, Int.zero_add]
            rfl
          have hl2 := upd_same (H := upd HC' l1 (.lst [.int (0 + (jj : Int))])) (a := l2) (o := .lst (natsV pt ++ [.int (0 + (jj : Int))]))
          refine ⟨Dn, ws, _, rfl, rfl, hwE, by rw [lws, sizeLine_eq]; omega, same_upd2 hDn (sC.trans sE), jN, _, _, rfl, upd_same, ?_, fun k hk => ?_⟩
          · rw [List.range_succ, List.map_append, ← List.append_assoc]
            exact ((pws.same sE).upd fun l hl => far l hl).app (.cons (show L2.upd _ Dn _ l2 = some (.lst (natsV (pt ++ [jj]))) by rw [upd_ne l2D, ← e2]; exact hl2) .nil)
          · rcases List.mem_append.mp hk with y | y
            · exact far k y
            · cases List.mem_singleton.mp y
              exact l2D
        · obtain ⟨sC, _, y6, ws, rfl, hws, pws, far⟩ := p
          rw [show ((N : Int) + 1).toNat = N + 1 by omega] at pws
          refine ⟨sC, _, _, ws, rfl, hws, ?_, far⟩
          rw [take_bstep hpt]
          exact pws
      · obtain ⟨sB, y5, y6, ws, rfl, hws, pws, far⟩ := p
        rw [lvs, List.take_length] at pws
        exact ⟨_, rfl, sH.trans sB, im, Dn, _, _, _, _, rfl, ws, hws, pws⟩
    · obtain ⟨sH, _, D, y3, y4, y5, y6, rfl, hD⟩ := p
      rw [Int.toNat_natCast] at hD
      exact ⟨_, rfl, q D HH (s01.trans sH) hD⟩
end
end K59

set_option Elab.async false
set_option linter.all false
set_option maxRecDepth 100000
set_option maxHeartbeats 4000000
set_option exponentiation.threshold 3000
namespace K59
open K59 PySem PySem.Spec PyProof.Rows L2 CK SX NM
open K59W (gname_eq tnext_eq c_law_random sp_random c_law_generator)
/-- raw pieces, within bounds -/
def RawB (m : Nat) (ps : List Pn) : Prop := ps.length ≤ 20 ∧ ∀ p ∈ ps, p.2.length = m + 1 ∧ (∀ x ∈ p.2, x < 2 ^ 150) ∧ p.1.length ≤ 20
def capL (n : Nat) (xs : List (List Nat × Nat)) : List (List Nat × Nat) := xs.map fun p => (p.1, min p.2 (n + 1))
theorem capL_len {n : Nat} (hn : n ≤ 10) : ∀ xs : List (List Nat × Nat), (∀ p ∈ xs, p.1.length ≤ 20) → (PM.wrN (capL n xs)).length ≤ 220 * xs.length
  | [], _ => Nat.zero_le _
  | p :: r, h => by
    have ih := capL_len hn r fun q hq => h q (List.mem_cons_of_mem _ hq)
    have p0 := h p List.mem_cons_self
    show (PM.wrN ((p.1, min p.2 (n + 1)) :: capL n r)).length ≤ _
    rw [PM.wrN_cons, List.length_append, List.length_cons]
    have e : (WM.pw p.1 (min p.2 (n + 1))).length = p.1.length * min p.2 (n + 1) := WM.pw_len _ _
    have b1 : p.1.length * min p.2 (n + 1) ≤ 20 * 11 := Nat.mul_le_mul p0 (by have := Nat.min_le_right p.2 (n + 1); omega)
    dsimp only at e ⊢
    omega
section
variable {P : Program} {w : World} {K : PySem.W.Frag} {mg : Str → Option Value} {base : Heap} {C E_InvalidText E_InvalidNumber E_TooMany E_CountError : Addr}
def sp_lparts : Sp := fun vs H Q _ => ∃ (l pa : Addr) (n : Nat) (raw : List Pn) (pt : List Nat), vs = [.ref l, .ref pa, .int n] ∧ PL H l raw ∧ LP H pa pt ∧ RawB pt.length raw ∧ pt.length ≤ 3 ∧ (∀ x ∈ pt, x < 2 ^ 110) ∧ n ≤ 10 ∧ ∀ D H' ks, Same H H' → H D = none → Kd H' D ks → ks.length ≤ 4500 → (∀ z, z ∈ ks ↔ PM.Pt n (wr pt raw) z) → Q (.ref D) H'
theorem c_law_parts (T : Txt K mg C E_InvalidText E_InvalidNumber E_TooMany E_CountError) : C8.Cal P w K mg base 2 "_law_parts" sp_lparts [] := by
  refine calF T.d_law_parts sc_law_parts (fun vs H Q E h => ?_) (fun fv cdv A outer s H vs Q E hr h => ?_)
  · obtain ⟨_, _, _, _, _, rfl, _⟩ := h; rfl
  · obtain ⟨l, pa, n, raw, pt, rfl, ⟨us, hl, pus⟩, hpa, ⟨few, rb⟩, l3, bp, hn, q⟩ := h
    have lu := pus.len
    refine ⟨_, (pss_cons (ps_set (i := 3) sc_law_parts.nd rfl (Or.inl rfl) pe_str)
    (pss_cons (ps_for PassesOwn.never rfl (pi_list (pv 0)) (pg_name (i := 4) sc_law_parts.nd rfl (Or.inl rfl))
    (pss_one (ps_set (i := 3) sc_law_parts.nd rfl (Or.inl rfl) (pe_op op_add_str (pv 3) (pe_op op_repS (pe_ix ix_tup (pv 4) pe_int (fun _ _ => rfl)) (pe_callB (call_min2 rfl) (by rfl) T.m_min (by decide +kernel) (pa_cons (C8.pe_c (c_law_value T) hr (by decide) (by rfl) (pa_cons (pe_ix ix_tup (pv 4) pe_int (fun _ _ => rfl)) (pa_cons (pv 1) pa_nil))) (pa_cons (pe_op op_add (pv 2) pe_int) pa_nil))))))))
    (pss_cons (ps_set (i := 5) sc_law_parts.nd rfl (Or.inl rfl) pe_dnewK)
    (pss_cons (ps_for PassesOwn.never rfl (pi_range1 (by rfl) T.m_range (pa_cons (pe_callB (call_max2 rfl) (by rfl) T.m_max (by decide +kernel) (pa_cons (pe_op op_add (pe_op op_sub (pe_callB call_len_str (by rfl) T.m_len (by decide +kernel) (pa_cons (pv 3) pa_nil)) (pv 2)) pe_int) (pa_cons pe_int pa_nil))) pa_nil)) (pg_name (i := 6) sc_law_parts.nd rfl (Or.inl rfl))
    (pss_one (ps_dput (room1 hr) (pv 5) (pe_slice C8.sl_txt (pv 3) (po_some (pv 6)) (po_some (pe_op op_add (pv 6) (pv 2)))) pe_bl rfl)))
    (pss_one (ps_ret (pv 5))))))), ?_⟩
    refine ⟨_, rfl, l, rfl, ⟨_, .inl (.inl hl)⟩, for_list (K := K) (a := l) (xs := us) (fun i σ HB => Same H HB ∧ ∃ (y4 : Option V), σ = [some (.ref l), some (.ref pa), some (.int (n : Nat)), some (.str (S (PM.wrN (capL n ((PM.valsP raw pt).take i))))), y4, none, none]) ⟨.refl _, none, rfl⟩ (fun i σ HB _ p => .inl (.inl (p.1 _ _ hl))) (fun i v σ HB hi p => ?_) fun σ HB p => ?_⟩
    · obtain ⟨sB, y4, rfl⟩ := p
      obtain ⟨t, p, rfl, hpi, fa, e1, e2⟩ := pus.get hi
      obtain ⟨lp, bf, wl⟩ := rb p (List.mem_of_getElem? hpi)
      have vx : (PM.valsP raw pt)[i]? = some (p.1, valF p.2 pt) := by
        unfold PM.valsP
        rw [List.getElem?_map, hpi]
        rfl
      have il : i < raw.length := (List.getElem?_eq_some_iff.mp hpi).1
      have cl := capL_len hn ((PM.valsP raw pt).take i) fun q hq => by
        obtain ⟨r, mr, rfl⟩ := List.mem_map.mp (List.mem_of_mem_take hq)
        exact (rb r mr).2.2
      have lt : ((PM.valsP raw pt).take i).length ≤ 20 := by
        unfold PM.valsP
        rw [List.length_take, List.length_map]
        omega
      have k1 := sB _ _ e1
      rw [gname_eq]
      refine ⟨_, rfl, _, rfl, t, _, 0, .str (S p.1), rfl, rfl, .inl (.inl k1), atI_nat (j := 0) rfl, _, rfl, t, _, 1, .ref fa, rfl, rfl, .inl (.inl k1), atI_nat (j := 1) rfl, _, rfl, fa, pa, p.2, pt, rfl, sB _ _ e2, sB _ _ hpa, lp, l3, bf, bp, fun H2 s2 => ⟨_, rfl, _, _, rfl, rfl, ((valF p.2 pt : Nat) : Int), (n : Int) + 1, rfl, p.1, min (valF p.2 pt) (n + 1), rfl, ?_, ?_, by omega, S (PM.wrN (capL n ((PM.valsP raw pt).take i))), _, rfl, rfl, ?_, ?_⟩⟩
      · congr 1
        by_cases c : (n : Int) + 1 < ((valF p.2 pt : Nat) : Int)
        · rw [if_pos c, Nat.min_eq_right (by omega)]; rfl
        · rw [if_neg c, Nat.min_eq_left (by omega)]
      · have := Nat.min_le_right (valF p.2 pt) (n + 1)
        omega
      · rw [S_len, S_len, sizeLine_eq]
        have e : (List.replicate (min (valF p.2 pt) (n + 1)) p.1).flatten.length = p.1.length * min (valF p.2 pt) (n + 1) := WM.pw_len _ _
        have b1 : p.1.length * min (valF p.2 pt) (n + 1) ≤ 20 * 11 := Nat.mul_le_mul wl (by have := Nat.min_le_right (valF p.2 pt) (n + 1); omega)
        omega
      · rw [S_cat]
        refine ⟨sB.trans s2, some (.ref t), ?_⟩
        rw [List.take_succ, vx]
        have ew : PM.wrN (capL n ((PM.valsP raw pt).take i ++ (some (p.1, valF p.2 pt)).toList)) = PM.wrN (capL n ((PM.valsP raw pt).take i)) ++ (List.replicate (min (valF p.2 pt) (n + 1)) p.1).flatten := by
          unfold capL PM.wrN
          rw [List.map_append, List.map_append, List.flatten_append]
          congr 1
          show WM.pw p.1 (min (valF p.2 pt) (n + 1)) ++ [] = _
          rw [List.append_nil]
          rfl
        rw [ew]
        rfl
    · obtain ⟨sB, y4, rfl⟩ := p
      have lvp : (PM.valsP raw pt).length = us.length := by rw [lu]; exact List.length_map _
      rw [← lvp, List.take_length]
      have cl := capL_len hn (PM.valsP raw pt) fun q hq => by
        obtain ⟨r, mr, rfl⟩ := List.mem_map.mp hq
        exact (rb r mr).2.2
      have ePt := fun z => PM.parts_law (n := n) raw pt z
      rw [show ((PM.valsP raw pt).map fun p => (p.1, min p.2 (n + 1))) = capL n (PM.valsP raw pt) from rfl] at ePt
      generalize PM.wrN (capL n (PM.valsP raw pt)) = wd at cl ePt ⊢
      have w44 : wd.length ≤ 4400 := by omega
      refine fun D nD => ?_
      have sD := sameNew (o := .dK []) nD
      have hD : Kd (upd HB D (.dK [])) D [] := ⟨[], upd_same, .nil⟩
      generalize upd HB D (.dK []) = HD at sD hD ⊢
      dsimp only
      rw [gname_eq]
      have er : (if (0 : Int) > ((wd.length : Nat) : Int) - (n : Int) + 1 then (0 : Int) else ((wd.length : Nat) : Int) - (n : Int) + 1).toNat = wd.length + 1 - n := by
        by_cases c : (0 : Int) > ((wd.length : Nat) : Int) - (n : Int) + 1
        · rw [if_pos c]; omega
        · rw [if_neg c]; omega
      refine ⟨_, rfl, S wd, rfl, len_line (by omega), _, rfl, _, _, rfl, rfl, _, _, rfl, rfl, _, _, rfl, _, rfl, ?_, ?_, ?_⟩
      · rw [S_len]; split <;> omega
      · rw [S_len]; split <;> omega
      · rw [S_len, er]
        have nDH := sB.free nD
        refine for_it walk_range (fun i σ H2 => Same HB (H2) ∧ i ≤ wd.length + 1 - n ∧ ∃ (y6 : Option V) (ks : List (List Nat)), σ = [some (.ref l), some (.ref pa), some (.int (n : Nat)), some (.str (S wd)), y4, some (.ref D), y6] ∧ Kd H2 D ks ∧ ks.length ≤ i ∧ ∀ z, z ∈ ks ↔ ∃ j, j < i ∧ z = (wd.drop j).take n) ⟨sD, Nat.zero_le _, none, [], rfl, hD, Nat.le_refl _, fun z => by simp⟩ (fun _ _ _ _ _ => True.intro) (fun i v σ H2 H3 hi p yy => ?_) fun σ H2 p => ?_
        · obtain ⟨s2, _, y6, ks, rfl, ⟨kvs, hks, kks⟩, lks, mem⟩ := p
          obtain ⟨rfl, rfl⟩ := yy
          have hi0 : i < wd.length + 1 - n := hi
          have hi' : i + n ≤ wd.length := by omega
          rw [gname_eq]
          refine ⟨_, rfl, _, rfl, _, rfl, ((i : Nat) : Int), congrArg V.int (Int.zero_add _), _, rfl, _, rfl, ((i : Nat) : Int), ((n : Nat) : Int), congrArg V.int (Int.zero_add _), rfl, ((i + n : Nat) : Int), congrArg V.int (by omega), S wd, rfl, len_line (by omega), ?_⟩
          dsimp only
          rw [slice_mid (by omega) hi', show i + n - i = n by omega]
          obtain ⟨ls, k1, k2, k3⟩ := kks.put ((wd.drop i).take n) (.bl true)
          refine ⟨D, _, rfl, DPut.k (k := Sum.inr (S ((wd.drop i).take n))) hks (by have := kks.len; rw [sizeLine_eq]; omega), same_upd2 nD s2, hi0, _, ls, rfl, ⟨_, upd_same, k1⟩, by omega, fun z => ?_⟩
          rw [k2, mem]
          constructor
          · rintro (⟨j, hj, e⟩ | e)
            · exact ⟨j, by omega, e⟩
            · exact ⟨i, by omega, e⟩
          · rintro ⟨j, hj, e⟩
            by_cases c : j = i
            · exact .inr (c ▸ e)
            · exact .inl ⟨j, by omega, e⟩
        · obtain ⟨s2, _, y6, ks, rfl, kd, lks, mem⟩ := p
          refine ⟨_, rfl, q D H2 ks (sB.trans s2) nDH kd (by omega) fun z => ?_⟩
          rw [← ePt, mem]
          constructor
          · rintro ⟨j, hj, e⟩
            exact ⟨j, by omega, e⟩
          · rintro ⟨j, hj, e⟩
            exact ⟨j, by omega, e⟩
end
end K59

set_option Elab.async false
set_option linter.all false
set_option maxRecDepth 100000
set_option maxHeartbeats 8000000
set_option exponentiation.threshold 3000
namespace K59
open K59 PySem PySem.Spec PyProof.Rows L2 CK SX NM
open K59W (gname_eq tnext_eq c_law_random sp_random c_law_generator)
theorem in_words (c : List Nat) : ∀ xs : List (List Nat), inV (.str (S c)) (xs.map fun z => V.str (S z)) = decide (c ∈ xs)
  | [] => rfl
  | x :: xs => by
    have ih := in_words c xs
    rw [List.map_cons]
    by_cases e : c = x
    · subst e
      rw [decide_eq_true List.mem_cons_self]
      simp [inV, eqV]
    · have : decide (c ∈ x :: xs) = decide (c ∈ xs) := decide_eq_decide.mpr (by simp [e])
      rw [this, ← ih]
      have ne : ¬ S c = S x := fun z => e (S_inj z)
      simp [inV, eqV]
      exact fun z => absurd z.symm e
theorem flat_words (xs : List (List Nat)) : (xs.map fun z => V.str (S z)).all flatV = true := by
  rw [List.all_map]
  exact List.all_eq_true.mpr fun _ _ => rfl
section
variable {P : Program} {w : World} {K : PySem.W.Frag} {mg : Str → Option Value} {base : Heap} {C E_InvalidText E_InvalidNumber E_TooMany E_CountError : Addr}
def sp_ldue : Sp := fun vs H Q _ => ∃ (l : Addr) (m n : Nat) (raw : List Pn), vs = [.ref l, .int m, .int n] ∧ PL H l raw ∧ RawB m raw ∧ m ≤ 3 ∧ 1 ≤ n ∧ n ≤ 4 ∧ ∀ D l1 l2 H' zs ys, Same H H' → H D = none → H' D = some (.lst [.ref l1, .ref l2]) → H' l1 = some (.lst (zs.map fun z => .str (S z))) → H' l2 = some (.lst (ys.map fun z => .str (S z))) → Told zs (SomeP m n raw) → Told ys (EveryP m n raw) → Q (.ref D) H'
theorem c_law_due (T : Txt K mg C E_InvalidText E_InvalidNumber E_TooMany E_CountError) : C8.Cal P w K mg base 3 "_law_due" sp_ldue [] := by
  refine calF T.d_law_due sc_law_due (fun vs H Q E h => ?_) (fun fv cdv A outer s H vs Q E hr h => ?_)
  · obtain ⟨_, _, _, _, rfl, _⟩ := h; rfl
  · obtain ⟨l, m, n, raw, rfl, pl, rb, m3, n1, n4, q⟩ := h
    refine ⟨_, (pss_cons (ps_asg (pe_tup (pa_cons pe_dnewK (pa_cons pe_non pa_nil))) (pg_two (K := K) (i := 3) (j := 4) rfl rfl sc_law_due.nd rfl rfl (Or.inl rfl) (Or.inr rfl)))
    (pss_cons (ps_for PassesOwn.never rfl (pi_list (C8.pe_c (c_law_points T) hr (by decide) (by rfl) (pa_cons (pv 1) (pa_cons (pv 2) pa_nil)))) (pg_name (i := 5) sc_law_due.nd rfl (Or.inl rfl))
    (pss_cons (ps_set (i := 6) sc_law_due.nd rfl (Or.inl rfl) (C8.pe_c (c_law_parts T) hr (by decide) (by rfl) (pa_cons (pv 0) (pa_cons (pv 5) (pa_cons (pv 2) pa_nil)))))
    (pss_cons (ps_lock (ps_for PassesOwn.never rfl (pi_keys (pv 6)) (pg_name (i := 7) sc_law_due.nd rfl (Or.inl rfl))
    (pss_one (ps_dput (room1 hr) (pv 3) (pv 7) pe_bl rfl))))
    (pss_one (ps_if (pt_cmpR op_lt (pe_callB (cr_maxL rfl) (by rfl) T.m_max (by decide +kernel) (pa_cons (pe_op op_cat (pv 5) (pe_lst (pa_cons pe_int pa_nil))) pa_nil)) (pv 2) (nomark _))
    (pss_one (ps_set (i := 4) sc_law_due.nd rfl (Or.inr rfl) (pe_lock (pe_lc (own := [("_law_word_here", 7)]) (by rfl) sc_law_due.nd (pi_keys (pv 6)) (blkOk_by (N := ["_law_pieces_here", "_law_many", "_law_letters", "_law_some", "_law_every", "_law_point", "_law_found", "_law_word_here"]) (sc := C8.fnScope (topS 66)) (own := [("_law_word_here", 7)]) (by decide +kernel)) (fun _ _ _ _ _ => (pg_name (i := 7) sc_law_due.nd rfl (Or.inl rfl))) (fun _ _ _ _ _ => (pts_one (PW.pt (pw_or (pt_cmpR op_isN (pv 4) pe_non (nomark _)) (pw_or1 (pt_cmpR (op_inK (K := K) rfl) (pv 7) (pv 4) (by rfl))))))) (fun _ _ _ _ _ => (pv 7))))))
    pss_nil)))))
    (pss_one (ps_ret (pe_lst (pa_cons (pe_callB (call_sortedDA rfl hr.units) (by rfl) T.m_sorted (by decide +kernel) (pa_cons (pv 3) pa_nil)) (pa_cons (pe_callB (cr_sortedA hr.units) (by rfl) T.m_sorted (by decide +kernel) (pa_cons (pv 4) pa_nil)) pa_nil))))))), ?_⟩
    refine fun D nD => ⟨by show 2 ≤ sizeLine; decide, fun tt ntt => ?_⟩
    have sD := sameNew (o := .dK []) nD
    have hD0 : Kd (upd H D (.dK [])) D [] := ⟨[], upd_same, .nil⟩
    generalize upd H D (.dK []) = HD at sD hD0 ntt ⊢
    have st := sameNew (o := .tup [V.ref D, V.non]) ntt
    have ht : upd HD tt (.tup [V.ref D, V.non]) tt = some (.tup [V.ref D, V.non]) := upd_same
    generalize upd HD tt (.tup [V.ref D, V.non]) = H1 at st ht ⊢
    have s1 := sD.trans st
    have hD1 := hD0.same st
    refine ⟨tt, _, rfl, .inl (.inl ht), rfl, _, _, rfl, _, _, rfl, rfl, ?_⟩
    have fits : (n + 1) ^ m ≤ 125 := Nat.le_trans (Nat.pow_le_pow_left (show n + 1 ≤ 5 by omega) m) (Nat.le_trans (Nat.pow_le_pow_right (by decide) m3) (by decide))
    refine ⟨_, rfl, _, rfl, m, n, rfl, m3, by omega, by omega, fun Dp H4 s4 pl4 => ?_⟩
    obtain ⟨vs, hvs, pvs⟩ := pl4
    have lvs := pvs.len
    have lbx := len_box n m
    have s04 := s1.trans s4
    have hD4 := hD1.same s4
    have nDH : H D = none := nD
    have dne : ∀ {l : Addr} {xs : List V}, H4 l = some (.lst xs) → l ≠ D := fun h e => by
      obtain ⟨kvs, hk, _⟩ := hD4
      rw [e, hk] at h
      cases h
    have sHH : ∀ {HH : Hp}, SameX D H4 HH → Same H HH := fun sx b o e => sx b o (fun z => by rw [z, nDH] at e; cases e) (s04 _ _ e)
    refine ⟨Dp, rfl, ⟨_, .inl (.inl hvs)⟩, for_list (K := K) (D := { nx := _, rt := Q, bk := fun _ _ => False, ct := fun _ _ => False }) (a := Dp) (xs := vs) (fun i σ HH => SameX D H4 HH ∧ ∃ (ks : List (List Nat)) (ev y5 y6 y7 : Option V), σ = [some (.ref l), some (.int (m : Nat)), some (.int (n : Nat)), some (.ref D), ev, y5, y6, y7] ∧ Kd HH D ks ∧ ks.length ≤ 4500 * i ∧ (∀ z, z ∈ ks ↔ ∃ pt ∈ (box m n).take i, PM.Pt n (wr pt raw) z) ∧
      ((ev = some .non ∧ ∀ pt ∈ (box m n).take i, ¬ Lt n pt) ∨ ∃ (E : Addr) (ls : List (List Nat)), ev = some (.ref E) ∧ HH E = some (.lst (ls.map fun z => .str (S z))) ∧ ls.Nodup ∧ ls.length ≤ 4500 ∧ ∀ z, z ∈ ls ↔ ∀ pt ∈ (box m n).take i, Lt n pt → PM.Pt n (wr pt raw) z))
      ⟨.refl _ _, [], _, none, none, none, rfl, hD4, Nat.zero_le _, fun z => by simp, .inl ⟨rfl, fun pt h => by simp at h⟩⟩ (fun i σ HH _ p => .inl (.inl (p.1 _ _ (dne hvs) hvs))) (fun i v σ HH hi p => ?_) fun σ HH p => ?_⟩
    · obtain ⟨sx, ks, ev, y5, y6, y7, rfl, kd, lks, mem, hev⟩ := p
      obtain ⟨lpA, pt, rfl, hpt, hlp⟩ := pvs.get hi
      obtain ⟨lpt, bpt⟩ := mem_box.mp (List.mem_of_getElem? hpt)
      have il : i < (box m n).length := (List.getElem?_eq_some_iff.mp hpt).1
      have hlpH : LP HH lpA pt := sx _ _ (dne hlp) hlp
      have sH := sHH sx
      rw [gname_eq]
      refine ⟨_, rfl, _, rfl, _, rfl, l, lpA, n, raw, pt, rfl, pl.same sH, hlpH, by rw [lpt]; exact rb, by omega, fun x hx => Nat.lt_of_le_of_lt (bpt x hx) (Nat.lt_of_le_of_lt n4 (by decide)), by omega, fun D2 H5 ks2 s5 nD2 kd2 lk2 mem2 => ?_⟩
      obtain ⟨kvs2, hk2, kk2⟩ := kd2
      have DD2 : D2 ≠ D := fun e => by
        obtain ⟨kv, hkv, _⟩ := kd
        rw [e, hkv] at nD2
        cases nD2
      have eT : (box m n).take (i + 1) = (box m n).take i ++ [pt] := by
        rw [List.take_succ, hpt]
        rfl
      dsimp only
      rw [gname_eq]
      have l2 := kk2.len
      have kd5 := kd.same s5
      refine joinS (a := tLock _) (fun σ' HX => SameX D H4 HX ∧ ∃ (ms : List (List Nat)) (y7 : Option V), σ' = [some (.ref l), some (.int (m : Nat)), some (.int (n : Nat)), some (.ref D), ev, some (.ref lpA), some (.ref D2), y7] ∧ Kd HX D ms ∧ HX D2 = some (.dK kvs2) ∧ SameX D H5 HX ∧ ms.length ≤ 4500 * (i + 1) ∧ ∀ z, z ∈ ms ↔ z ∈ ks ∨ z ∈ ks2) (fun σ' HX p => ?_) fun U hU => ?_
      · obtain ⟨sx6, ms, y7', rfl, hk6, k26, sxE, lms, mmem⟩ := p
        have hlp6 : LP HX lpA pt := sx6 _ _ (dne hlp) hlp
        have mem' : ∀ z, z ∈ ms ↔ ∃ pt ∈ (box m n).take (i + 1), PM.Pt n (wr pt raw) z := fun z => by
          rw [mmem, mem, mem2, eT]
          constructor
          · rintro (⟨q, hq, h⟩ | h)
            · exact ⟨q, List.mem_append.mpr (.inl hq), h⟩
            · exact ⟨pt, List.mem_append.mpr (.inr List.mem_cons_self), h⟩
          · rintro ⟨q, hq, h⟩
            rcases List.mem_append.mp hq with z' | z'
            · exact .inl ⟨q, z', h⟩
            · rw [List.mem_singleton.mp z'] at h
              exact .inr h
        refine ⟨_, rfl, by show 1 ≤ sizeLine; decide, fun q1 nq1 => ?_⟩
        have t1 := sameNew (o := .lst [.int 0]) nq1
        have hq1 : upd HX q1 (.lst [.int 0]) q1 = some (.lst [.int 0]) := upd_same
        generalize upd HX q1 (.lst [.int 0]) = HY at t1 hq1 ⊢
        refine ⟨lpA, q1, _, _, rfl, rfl, t1 _ _ hlp6, hq1, by rw [natsV_len, sizeLine_eq]; simp; omega, fun q2 nq2 => ?_⟩
        have t2 := sameNew (o := .lst (natsV pt ++ [V.int 0])) nq2
        have hq2 : upd HY q2 (.lst (natsV pt ++ [V.int 0])) q2 = some (.lst (natsV (pt ++ [0]))) := by
          rw [upd_same]
          unfold natsV
          rw [List.map_append]
          rfl
        generalize upd HY q2 (.lst (natsV pt ++ [V.int 0])) = HZ at t2 hq2 ⊢
        have t12 := t1.trans t2
        have sxZ : SameX D H4 HZ := sx6.trans (.of t12)
        have hkZ := hk6.same t12
        have k2Z := t12 _ _ k26
        refine ⟨q2, pt ++ [0], rfl, hq2, by rw [List.length_append]; simp, _, rfl, _, _, rfl, rfl, _, rfl, ?_⟩
        have ml : decide (((mx (pt ++ [0]) : Nat) : Int) < ((n : Nat) : Int)) = decide (Lt n pt) := decide_eq_decide.mpr ⟨fun h x hx => by have := le_mx (l := pt ++ [0]) (List.mem_append.mpr (.inl hx)); omega, fun h => by
          have := mx_le (n := n - 1) (l := pt ++ [0]) (fun x hx => by
            rcases List.mem_append.mp hx with y | y
            · have := h x y; omega
            · rw [List.mem_singleton.mp y]; omega)
          omega⟩
        rw [ml]
        obtain ⟨keep, hkeep⟩ : ∃ keep : List Nat → Bool, (ev = some .non ∧ (∀ pt ∈ (box m n).take i, ¬ Lt n pt) ∧ ∀ z, keep z = true) ∨ ∃ (E : Addr) (ls : List (List Nat)), ev = some (.ref E) ∧ E ≠ D2 ∧ HZ E = some (.lst (ls.map fun z => .str (S z))) ∧ ls.Nodup ∧ ls.length ≤ 4500 ∧ (∀ z, z ∈ ls ↔ ∀ pt ∈ (box m n).take i, Lt n pt → PM.Pt n (wr pt raw) z) ∧ ∀ z, keep z = decide (z ∈ ls) := by
          rcases hev with ⟨e, no⟩ | ⟨E, ls, e, hE, nd, lE, mE5⟩
          · exact ⟨fun _ => true, .inl ⟨e, no, fun _ => rfl⟩⟩
          · have hE5 := s5 _ _ hE
            have ED : E ≠ D := fun z => by
              obtain ⟨_, h', _⟩ := kd
              rw [z, h'] at hE
              cases hE
            exact ⟨fun z => decide (z ∈ ls), .inr ⟨E, ls, e, fun z => by (rw [z, hk2] at hE5; cases hE5), t12 _ _ (sxE _ _ ED hE5), nd, lE, mE5, fun _ => rfl⟩⟩
        by_cases c : Lt n pt
        · rw [decide_eq_true c]
          refine iteT ?_
          have mE : ∀ {z : List Nat}, (∀ q ∈ (box m n).take (i + 1), Lt n q → PM.Pt n (wr q raw) z) ↔ (∀ q ∈ (box m n).take i, Lt n q → PM.Pt n (wr q raw) z) ∧ PM.Pt n (wr pt raw) z := fun {z} => by
            rw [eT]
            constructor
            · exact fun h => ⟨fun q hq => h q (List.mem_append.mpr (.inl hq)), h pt (List.mem_append.mpr (.inr List.mem_cons_self)) c⟩
            · rintro ⟨h1, h2⟩ q hq lq
              rcases List.mem_append.mp hq with z' | z'
              · exact h1 q z' lq
              · rw [List.mem_singleton.mp z']
                exact h2
          refine ⟨D2, .dK kvs2, k2Z, trivial, fun od => ?_⟩
          have hfz := upd_same (H := HZ) (a := D2) (o := .frz od (.dK kvs2))
          refine ⟨_, rfl, D2, od, rfl, .inl ⟨kvs2, hfz, fun Dn hDn => ?_⟩⟩
          have DnD : Dn ≠ D2 := fun e => by rw [e, hfz] at hDn; cases hDn
          refine lc_keys (ks := kvs2) (fun j HB => Same (upd HZ D2 (.frz od (.dK kvs2))) HB ∧ HB Dn = some (.lst (((ks2.take j).filter keep).map fun z => .str (S z)))) ⟨sameNew hDn, upd_same⟩ (fun j HB _ p => p.1 _ _ hfz) (fun j k v HB hj p => ?_) fun HB p => ?_
          · obtain ⟨sB, hjs⟩ := p
            have jl2 : j < kvs2.length := (List.getElem?_eq_some_iff.mp hj).1
            obtain ⟨z, hz, rfl⟩ : ∃ z, ks2[j]? = some z ∧ k = Sum.inr (S z) := by
              have e := congrArg (fun l => l[j]?) kk2.1
              simp only [List.getElem?_map, hj] at e
              cases e2 : ks2[j]? with
              | none => rw [e2] at e; cases e
              | some z => rw [e2] at e; exact ⟨z, rfl, Option.some.inj e⟩
            have eT2 : ks2.take (j + 1) = ks2.take j ++ [z] := by
              rw [List.take_succ, hz]
              rfl
            have lfl : (((ks2.take j).filter keep).map fun z => V.str (S z)).length ≤ 4500 := by
              rw [List.length_map]
              exact Nat.le_trans (List.length_filter_le _ _) (by rw [List.length_take]; omega)
            rw [eT2, List.filter_append]
            have yes : keep z = true → ∃ acc, HB Dn = some (.lst acc) ∧ acc.length < sizeLine ∧ Same (upd HZ D2 (.frz od (.dK kvs2))) (upd HB Dn (.lst (acc ++ [V.str (S z)]))) ∧ upd HB Dn (.lst (acc ++ [V.str (S z)])) Dn = some (.lst (((ks2.take j).filter keep ++ [z].filter keep).map fun z => V.str (S z))) := fun k => by
              refine ⟨_, hjs, by rw [sizeLine_eq]; omega, same_upd2 hDn sB, ?_⟩
              rw [upd_same, List.map_append, List.filter_cons, if_pos k]
              rfl
            have nay : keep z = false → Same (upd HZ D2 (.frz od (.dK kvs2))) HB ∧ HB Dn = some (.lst (((ks2.take j).filter keep ++ [z].filter keep).map fun z => V.str (S z))) := fun k => by
              refine ⟨sB, ?_⟩
              rw [List.filter_cons, k, if_neg Bool.false_ne_true, List.filter_nil, List.append_nil]
              exact hjs
            rcases hkeep with ⟨rfl, no, kp⟩ | ⟨E, ls, rfl, ED2, hE, nd, lE, mE5, kp⟩
            · refine ⟨rfl, _, rfl, rfl, _, rfl, ?_⟩
              exact iteT (iteT ⟨_, rfl, yes (kp z)⟩)
            · have hEB : HB E = some (.lst (ls.map fun z => .str (S z))) := sB _ _ (by rw [upd_ne ED2]; exact hE)
              refine ⟨rfl, _, rfl, rfl, _, rfl, ?_⟩
              refine iteF ⟨_, rfl, _, rfl, E, _, rfl, .inl (.inl (.inl hEB)), rfl, flat_words ls, _, rfl, ?_⟩
              rw [if_neg Bool.false_ne_true, show kV (Sum.inr (S z)) = V.str (S z) from rfl, in_words, ← kp z]
              cases k : keep z with
              | true => exact iteT ⟨_, rfl, yes k⟩
              | false => exact iteF (nay k)
          · obtain ⟨sB, hjs⟩ := p
            obtain ⟨hfB, sU⟩ := same_lock k2Z sB
            rw [l2, List.take_length] at hjs
            refine ⟨hfB, ?_⟩
            have hjU : upd HB D2 (.dK kvs2) Dn = some (.lst ((ks2.filter keep).map fun z => .str (S z))) := by rw [upd_ne DnD]; exact hjs
            refine ⟨sxZ.trans (.of sU), ms, _, _, _, _, rfl, hkZ.same sU, by omega, mem', .inr ⟨Dn, ks2.filter keep, rfl, hjU, kk2.2.filter _, Nat.le_trans (List.length_filter_le _ _) lk2, fun z => ?_⟩⟩
            rw [List.mem_filter, mem2, mE]
            rcases hkeep with ⟨rfl, no, kp⟩ | ⟨E, ls, rfl, ED2, hE, nd, lE, mE5, kp⟩
            · rw [kp z]
              exact ⟨fun h => ⟨fun q hq lq => absurd lq (no q hq), h.1⟩, fun h => ⟨h.2, rfl⟩⟩
            · rw [kp z, decide_eq_true_iff, mE5]
              exact And.comm
        · rw [decide_eq_false c]
          refine iteF ?_
          rw [tnext_eq]
          refine ⟨sxZ, ms, ev, _, _, _, rfl, hkZ, by omega, mem', ?_⟩
          rcases hkeep with ⟨e, no, kp⟩ | ⟨E, ls, e, ED2, hE, nd, lE, mE5, kp⟩
          · refine .inl ⟨e, fun q hq => ?_⟩
            rw [eT] at hq
            rcases List.mem_append.mp hq with z' | z'
            · exact no q z'
            · rw [List.mem_singleton.mp z']
              exact c
          · refine .inr ⟨E, ls, e, hE, nd, lE, fun z => ?_⟩
            rw [mE5, eT]
            constructor
            · intro h q hq lq
              rcases List.mem_append.mp hq with z' | z'
              · exact h q z' lq
              · rw [List.mem_singleton.mp z'] at lq
                exact absurd lq c
            · exact fun h q hq => h q (List.mem_append.mpr (.inl hq))
      · refine ⟨D2, .dK kvs2, hk2, trivial, fun od => ?_⟩
        have hfz := upd_same (H := H5) (a := D2) (o := .frz od (.dK kvs2))
        have kdz : Kd (upd H5 D2 (.frz od (.dK kvs2))) D ks := by
          obtain ⟨kvs, e, k⟩ := kd5
          exact ⟨kvs, by rw [upd_ne (Ne.symm DD2)]; exact e, k⟩
        refine ⟨_, rfl, D2, od, rfl, .inl ⟨kvs2, hfz, ?_⟩⟩
        refine for_it walk_keys (fun j σ HB => SameX D (upd H5 D2 (.frz od (.dK kvs2))) HB ∧ ∃ (y7 : Option V) (js : List (List Nat)), σ = [some (.ref l), some (.int (m : Nat)), some (.int (n : Nat)), some (.ref D), ev, some (.ref lpA), some (.ref D2), y7] ∧ Kd HB D js ∧ js.length ≤ ks.length + j ∧ ∀ z, z ∈ js ↔ z ∈ ks ∨ z ∈ ks2.take j) ⟨.refl _ _, _, ks, rfl, kdz, Nat.le_refl _, fun z => by simp⟩ (fun j σ HB _ p => p.1 _ _ DD2 hfz) (fun j x σ HB HB' hj p yy => ?_) fun σ HB p => ?_
        · obtain ⟨sB, y7', js, rfl, ⟨jvs, hjs, kjs⟩, jl, jmem⟩ := p
          obtain ⟨rfl, k, v, hk, rfl⟩ := yy
          have jl2 : j < kvs2.length := (List.getElem?_eq_some_iff.mp hk).1
          obtain ⟨z, hz, rfl⟩ : ∃ z, ks2[j]? = some z ∧ k = Sum.inr (S z) := by
            have e := congrArg (fun l => l[j]?) kk2.1
            simp only [List.getElem?_map, hk] at e
            cases e2 : ks2[j]? with
            | none => rw [e2] at e; cases e
            | some z => rw [e2] at e; exact ⟨z, rfl, Option.some.inj e⟩
          have eT2 : ks2.take (j + 1) = ks2.take j ++ [z] := by
            rw [List.take_succ, hz]
            rfl
          obtain ⟨ls, k1, k2, k3⟩ := kjs.put z (.bl true)
          rw [gname_eq]
          refine ⟨_, rfl, _, rfl, D, _, rfl, DPut.k (k := Sum.inr (S z)) hjs (by have := kjs.len; rw [sizeLine_eq]; omega), sB.trans sameX_upd, _, ls, rfl, ⟨_, upd_same, k1⟩, by omega, fun y => ?_⟩
          rw [k2, jmem, eT2, List.mem_append, List.mem_singleton]
          exact or_assoc
        · obtain ⟨sB, y7', js, rfl, kdB, jl, jmem⟩ := p
          obtain ⟨hfB, sU⟩ := same_lockX hk2 DD2 sB
          rw [l2] at jl jmem
          rw [List.take_length] at jmem
          refine ⟨hfB, hU _ _ ⟨(sx.trans (.of s5)).trans sU, js, _, rfl, ?_, upd_same, sU, by omega, jmem⟩⟩
          obtain ⟨jvs, hjs, kjs⟩ := kdB
          exact ⟨jvs, by rw [upd_ne (Ne.symm DD2)]; exact hjs, kjs⟩
    · obtain ⟨sx, ks, ev, y5, y6, y7, rfl, kd, lks, mem, hev⟩ := p
      rw [lvs, List.take_length] at mem hev
      have zer : List.replicate m 0 ∈ box m n := mem_box.mpr ⟨List.length_replicate, fun x hx => by rw [List.eq_of_mem_replicate hx]; omega⟩
      have lz : Lt n (List.replicate m 0) := fun x hx => by rw [List.eq_of_mem_replicate hx]; omega
      rcases hev with ⟨rfl, no⟩ | ⟨E, ls, rfl, hE, nd, lE, mE5⟩
      · exact absurd lz (no _ zer)
      obtain ⟨kvs, hk, kk⟩ := kd
      have lks' : ks.length ≤ 900000 := by rw [lvs] at lks; omega
      refine ⟨_, rfl, D, kvs, ks.map S, rfl, .inl hk, by rw [kk.1, List.map_map]; rfl, by rw [List.length_map, sizeLine_eq]; omega, fun p1 np1 => ?_⟩
      rw [sort_S1]
      have sp1 := sameNew (o := .lst (((ks.mergeSort leW).map S).map V.str)) np1
      have hp1 : upd HH p1 (.lst (((ks.mergeSort leW).map S).map V.str)) p1 = some (.lst (((ks.mergeSort leW).map S).map V.str)) := upd_same
      generalize upd HH p1 (.lst (((ks.mergeSort leW).map S).map V.str)) = H7 at sp1 hp1 ⊢
      have mm : ∀ z : List (List Nat), (z.map S).map V.str = z.map fun z => V.str (S z) := fun z => by rw [List.map_map]; rfl
      refine ⟨_, rfl, E, (ls.map S).map V.str, dV, rfl, .inl (.inl (by rw [mm]; exact sp1 _ _ hE)), fun v hv => ?_, alike_strs _, sortable_strs _, fun v hv => ?_, fun p2 np2 => ?_⟩
      · obtain ⟨x, _, rfl⟩ := List.mem_map.mp hv
        exact .str _
      · obtain ⟨x, _, rfl⟩ := List.mem_map.mp hv
        exact Nat.zero_le _
      rw [sort_strs, sort_S1]
      have sp2 := sameNew (o := .lst (((ls.mergeSort leW).map S).map V.str)) np2
      have hp2 : upd H7 p2 (.lst (((ls.mergeSort leW).map S).map V.str)) p2 = some (.lst (((ls.mergeSort leW).map S).map V.str)) := upd_same
      generalize upd H7 p2 (.lst (((ls.mergeSort leW).map S).map V.str)) = H8 at sp2 hp2 ⊢
      refine ⟨by show 2 ≤ sizeLine; decide, fun r nr => ?_⟩
      have sr := sameNew (o := .lst [.ref p1, .ref p2]) nr
      have sAll := ((sHH sx).trans sp1).trans sp2
      refine q r p1 p2 _ (ks.mergeSort leW) (ls.mergeSort leW) (sAll.trans sr) (sAll.free nr) upd_same (by rw [sr _ _ (sp2 _ _ hp1), mm]) (by rw [sr _ _ hp2, mm]) (told_sort kk.2 fun z => ?_) (told_sort nd fun z => ?_)
      · rw [mem]
        constructor
        · rintro ⟨pt, hpt, h⟩
          obtain ⟨h1, h2⟩ := mem_box.mp hpt
          exact ⟨pt, h1, h2, h⟩
        · rintro ⟨pt, h1, h2, h⟩
          exact ⟨pt, mem_box.mpr ⟨h1, h2⟩, h⟩
      · rw [mE5]
        constructor
        · exact fun h pt h1 h2 => h pt (mem_box.mpr ⟨h1, fun x hx => Nat.le_of_lt (h2 x hx)⟩) h2
        · exact fun h pt hpt lt => h pt (mem_box.mp hpt).1 lt
end
end K59

set_option Elab.async false
set_option linter.all false
set_option maxRecDepth 100000
set_option maxHeartbeats 4000000
set_option exponentiation.threshold 3000
namespace K59
open K59 PySem PySem.Spec PyProof.Rows L2 CK SX NM
open K59W (gname_eq tnext_eq c_law_random sp_random c_law_generator)
theorem dr_one {m c : Nat} (hc : c = 97 ∨ c = 98) : DrP m ([c], 1 :: List.replicate m 0) := by
  refine ⟨by simp, by show 1 ≤ 10; decide, fun x hx => by rw [List.mem_singleton.mp hx]; exact hc, by show 1 ≤ 2; decide, fun x hx => ?_⟩
  rcases List.mem_cons.mp hx with rfl | hx
  · decide
  · rw [List.eq_of_mem_replicate hx]
    exact Nat.zero_le _
abbrev rTupCat : R2 := fun x y H Q => ∃ (a b : Addr) (xs ys : List V), x = V.ref a ∧ y = V.ref b ∧ H a = some (.tup xs) ∧ H b = some (.tup ys) ∧ xs.length + ys.length ≤ 1000 ∧ ∀ (p : Addr) (H' : Hp), Same H H' → H' p = some (.tup (xs ++ ys)) → Q (V.ref p) H'
theorem one_tree {K' : PySem.W.Frag} {σ : L2.St} {H : Hp} {Q : V → Hp → Prop} {g : Addr} {m n : Nat} (h0 : σ[0]? = some (some (.ref g))) (h1 : σ[1]? = some (some (.int (m : Nat)))) (hm : m ≤ 3) (G : Gn (n + 1) H g)
    (q : ∀ (t : Addr) (c : Nat) (H' : Hp), SameX g H H' → Gn n H' g → (c = 97 ∨ c = 98) → PC H' t ([c], 1 :: List.replicate m 0) → Q (.ref t) H') :
    tTup (tCons (tOp rIxS (tC (V.str (Str.ofString "ab"))) (tCall sp_random [] C8.E0 (tCons (tVar 0) (tCons (tC (V.int 2)) tNil)))) (tCons (tOp rTupCat (tTup (tCons (tC (V.int 1)) tNil)) (tOp (rRepOne K') (tTup (tCons (tC (V.int 0)) tNil)) (tVar 1))) tNil)) σ H Q := by
  refine ⟨_, h0, g, 2, n, rfl, G, by decide, by decide, fun b H8 s8 G8 b0 b1 => ?_⟩
  have key : ∀ c : Nat, (c = 97 ∨ c = 98) → (tCons (tOp rTupCat (tTup (tCons (tC (V.int 1)) tNil)) (tOp (rRepOne K') (tTup (tCons (tC (V.int 0)) tNil)) (tVar 1))) tNil) σ H8 (fun xs H2 => (V.str (S [c]) :: xs).length ≤ sizeLine ∧ ∀ p, H2 p = none → Q (.ref p) (upd H2 p (.tup (V.str (S [c]) :: xs)))) := fun c hc => by
    refine ⟨by show 1 ≤ sizeLine; decide, fun t1 n1 => ⟨by show 1 ≤ sizeLine; decide, fun t2 n2 => ⟨_, h1, t2, _, _, rfl, rfl, upd_same, by omega, by omega, fun p H' s hp => ?_⟩⟩⟩
    have e1 : H' t1 = some (.tup [.int 1]) := s _ _ (by rw [upd_ne (ne_of_none upd_same n2)]; exact upd_same)
    refine ⟨t1, p, _, _, rfl, rfl, e1, hp, by simp; omega, fun p2 H2 s2 h2 => ⟨by show 2 ≤ sizeLine; decide, fun t ht => ?_⟩⟩
    have sN := (((sameNew n1).trans (sameNew n2)).trans (s.trans s2)).trans (sameNew (o := .tup [V.str (S [c]), .ref p2]) ht)
    refine q t c _ (s8.trans (.of sN)) (G8.same sN) hc ⟨p2, upd_same, ?_⟩
    refine sameNew ht _ _ ?_
    rw [h2]
    simp
  rcases (by omega : b = 0 ∨ b = 1) with rfl | rfl
  · exact ⟨_, 0, 97, rfl, rfl, by decide +kernel, by decide +kernel, key 97 (.inl rfl)⟩
  · exact ⟨_, 1, 98, rfl, rfl, by decide +kernel, by decide +kernel, key 98 (.inr rfl)⟩
theorem tcons_eq (a : TE) (b : TA) (σ : L2.St) (H : Hp) (Q : List V → Hp → Prop) : tCons a b σ H Q = a σ H fun x H1 => b σ H1 fun xs H2 => Q (x :: xs) H2 := rfl
theorem tlst_eq (t : TA) (σ : L2.St) (H : Hp) (Q : VK) : tLst t σ H Q = t σ H fun xs H1 => xs.length ≤ sizeLine ∧ ∀ p, H1 p = none → Q (.ref p) (upd H1 p (.lst xs)) := rfl
section
variable {P : Program} {w : World} {K : PySem.W.Frag} {mg : Str → Option Value} {base : Heap} {C E_InvalidText E_InvalidNumber E_TooMany E_CountError : Addr}
def sp_laced : Sp := fun vs H Q _ => ∃ (g l : Addr) (m n : Nat) (ps : List Pn), vs = [.ref g, .int m, .ref l] ∧ m ≤ 3 ∧ Gn (n + 20) H g ∧ l ≠ g ∧ PL H l ps ∧ (∀ p ∈ ps, DrP m p) ∧ ps.length ≤ 4 ∧ ∀ (l' : Addr) (qs : List Pn) H', SameX g H H' → Gn n H' g → l' ≠ g → PL H' l' qs → (∀ p ∈ qs, DrP m p) → qs.length ≤ 9 → Q (.ref l') H'
theorem c_law_laced (T : Txt K mg C E_InvalidText E_InvalidNumber E_TooMany E_CountError) : C8.Cal P w K mg base 3 "_law_laced" sp_laced [] := by
  refine calF T.d_law_laced sc_law_laced (fun vs H Q E h => ?_) (fun fv cdv A outer s H vs Q E hr h => ?_)
  · obtain ⟨_, _, _, _, _, rfl, _⟩ := h; rfl
  · obtain ⟨g, l, m, n, ps, rfl, m3, G, lg, ⟨us, hl, pus⟩, dr, few, q⟩ := h
    have lu := pus.len
    refine ⟨_, (pss_cons (ps_if (pt_cmpR op_gt (C8.pe_c (c_law_random T) hr (by decide) (by rfl) (pa_cons (pv 0) (pa_cons pe_int pa_nil))) pe_int (nomark _))
    (pss_one (ps_ret (pv 2)))
    pss_nil)
    (pss_cons (ps_set (i := 3) sc_law_laced.nd rfl (Or.inl rfl) (pe_lst pa_nil))
    (pss_cons (ps_for PassesOwn.never rfl (pi_list (pv 2)) (pg_name (i := 4) sc_law_laced.nd rfl (Or.inl rfl))
    (pss_one (ps_set (i := 3) sc_law_laced.nd rfl (Or.inl rfl) (pe_op op_cat (pv 3) (pe_lst (pa_cons (pe_tup (pa_cons (pe_ix ix_str pe_str (C8.pe_c (c_law_random T) hr (by decide) (by rfl) (pa_cons (pv 0) (pa_cons pe_int pa_nil))) (fun _ _ => rfl)) (pa_cons (pe_op op_catS (pe_tup (pa_cons pe_int pa_nil)) (pe_op op_repOne (pe_tup (pa_cons pe_int pa_nil)) (pv 1))) pa_nil))) (pa_cons (pv 4) pa_nil)))))))
    (pss_one (ps_ret (pe_op op_cat (pv 3) (pe_lst (pa_cons (pe_tup (pa_cons (pe_ix ix_str pe_str (C8.pe_c (c_law_random T) hr (by decide) (by rfl) (pa_cons (pv 0) (pa_cons pe_int pa_nil))) (fun _ _ => rfl)) (pa_cons (pe_op op_catS (pe_tup (pa_cons pe_int pa_nil)) (pe_op op_repOne (pe_tup (pa_cons pe_int pa_nil)) (pv 1))) pa_nil))) pa_nil)))))))), ?_⟩
    refine ⟨_, rfl, g, 3, n + 19, rfl, G, by decide, by decide, fun r H1 s1 G1 r0 r1 => ⟨_, _, rfl, rfl, _, rfl, ?_⟩⟩
    have hl1 := s1 _ _ lg hl
    have pus1 := pus.mono fun b xs e => s1.tup G e
    by_cases c : (0 : Int) < r
    · rw [decide_eq_true c]
      exact iteT ⟨_, rfl, q l ps H1 s1 (G1.le (by omega)) lg ⟨us, hl1, pus1⟩ dr (by omega)⟩
    · rw [decide_eq_false c]
      refine iteF ⟨by show 0 ≤ sizeLine; decide, fun L0 nL0 => ?_⟩
      have s2 := sameNew (o := .lst []) nL0
      have h2 : upd H1 L0 (.lst []) L0 = some (.lst []) := upd_same
      have L0g := Gn.ne G1 nL0
      have G2 := G1.same s2
      generalize upd H1 L0 (.lst []) = H2 at s2 h2 G2 ⊢
      dsimp only
      rw [gname_eq]
      refine ⟨_, rfl, l, rfl, ⟨_, .inl (.inl (s2 _ _ hl1))⟩, for_list (K := K) (D := { nx := _, rt := Q, bk := fun _ _ => False, ct := fun _ _ => False }) (a := l) (xs := us) (fun i σ HH => SameX g H2 HH ∧ Gn (n + 2 + 4 * (4 - i)) HH g ∧ i ≤ 4 ∧ ∃ (L : Addr) (y4 : Option V) (qs : List Pn), σ = [some (.ref g), some (.int (m : Nat)), some (.ref l), some (.ref L), y4] ∧ L ≠ g ∧ PL HH L qs ∧ qs.length ≤ 2 * i ∧ ∀ p ∈ qs, DrP m p)
        ⟨.refl _ _, G2.le (by omega), by omega, L0, none, [], rfl, L0g, ⟨[], h2, .nil⟩, Nat.le_refl _, fun p hp => nomatch hp⟩ (fun i σ HH _ p => .inl (.inl (p.1 _ _ lg (s2 _ _ hl1)))) (fun i v σ HH hi p => ?_) fun σ HH p => ?_⟩
      · obtain ⟨sx, G3, i4, L, y4, qs, rfl, Lg, ⟨ws, hws, pws⟩, lqs, dq⟩ := p
        obtain ⟨b, p, rfl, hpi, pc⟩ := pus1.get hi
        have ip : i < ps.length := (List.getElem?_eq_some_iff.mp hpi).1
        rw [show n + 2 + 4 * (4 - i) = n + 2 + 4 * (4 - (i + 1)) + 4 by omega] at G3
        rw [gname_eq]
        refine ⟨_, rfl, ?_⟩
        have lws := pws.len
        have pcH : PC HH b p := pc.mono fun a xs e => sx.tup (G2) (s2 _ _ e)
        dsimp only
        rw [tlst_eq, tcons_eq]
        refine one_tree (n := n + 2 + 4 * (4 - (i + 1)) + 3) (g := g) (m := m) (by rfl) (by rfl) m3 G3 ?_
        refine fun t c HA sA GA hc pcA => ⟨_, rfl, by show 2 ≤ sizeLine; decide, fun L1 nL1 => ?_⟩
        have sB := sameNew (o := .lst [.ref t, .ref b]) nL1
        have hB : upd HA L1 (.lst [.ref t, .ref b]) L1 = some (.lst [.ref t, .ref b]) := upd_same
        have GB := GA.same sB
        generalize upd HA L1 (.lst [.ref t, .ref b]) = HB at sB hB GB ⊢
        have hwsA := sA _ _ Lg hws
        refine ⟨L, L1, _, _, rfl, rfl, sB _ _ hwsA, hB, by rw [lws, sizeLine_eq]; show qs.length + 2 ≤ _; omega, fun L2 nL2 => ?_⟩
        have sC := sameNew (o := .lst (ws ++ [.ref t, .ref b])) nL2
        have L2g := Gn.ne GB nL2
        have pcs : Pcs (upd HB L2 (.lst (ws ++ [.ref t, .ref b]))) (ws ++ [.ref t, .ref b]) (qs ++ [([c], 1 :: List.replicate m 0), p]) := (pws.mono fun a xs e => sC _ _ (sB _ _ (sA.tup G3 e))).app (.cons (pcA.mono fun a xs e => sC _ _ (sB _ _ e)) (.cons (pcH.mono fun a xs e => sC _ _ (sB _ _ (sA.tup G3 e))) .nil))
        refine ⟨sx.trans (sA.trans (.of (sB.trans sC))), (GB.same sC).le (by omega), by omega, L2, _, qs ++ [([c], 1 :: List.replicate m 0), p], rfl, L2g, ⟨_, upd_same, pcs⟩, by rw [List.length_append]; show qs.length + 2 ≤ _; omega, fun x hx => ?_⟩
        rcases List.mem_append.mp hx with z | z
        · exact dq x z
        · rcases List.mem_cons.mp z with rfl | z
          · exact dr_one hc
          · rw [List.mem_singleton.mp z]
            exact dr p (List.mem_of_getElem? hpi)
      · obtain ⟨sx, G3, i4, L, y4, qs, rfl, Lg, ⟨ws, hws, pws⟩, lqs, dq⟩ := p
        have lws := pws.len
        refine ⟨_, rfl, ?_⟩
        dsimp only
        rw [tlst_eq, tcons_eq]
        refine one_tree (n := n + 1) (g := g) (m := m) (by rfl) (by rfl) m3 (G3.le (by omega)) ?_
        refine fun t c HA sA GA hc pcA => ⟨by show 1 ≤ sizeLine; decide, fun L1 nL1 => ?_⟩
        have sB := sameNew (o := .lst [.ref t]) nL1
        have hB : upd HA L1 (.lst [.ref t]) L1 = some (.lst [.ref t]) := upd_same
        have GB := GA.same sB
        generalize upd HA L1 (.lst [.ref t]) = HB at sB hB GB ⊢
        have hwsA := sA _ _ Lg hws
        refine ⟨L, L1, _, _, rfl, rfl, sB _ _ hwsA, hB, by rw [lws, sizeLine_eq]; show qs.length + 1 ≤ _; omega, fun L2 nL2 => ?_⟩
        have sC := sameNew (o := .lst (ws ++ [.ref t])) nL2
        have L2g := Gn.ne GB nL2
        have pcs : Pcs (upd HB L2 (.lst (ws ++ [.ref t]))) (ws ++ [.ref t]) (qs ++ [([c], 1 :: List.replicate m 0)]) := (pws.mono fun a xs e => sC _ _ (sB _ _ (sA.tup G3 e))).app (.cons (pcA.mono fun a xs e => sC _ _ (sB _ _ e)) .nil)
        refine q L2 _ _ (s1.trans ((SameX.of s2).trans (sx.trans (sA.trans (.of (sB.trans sC)))))) ((GB.same sC).le (by omega)) L2g ⟨_, upd_same, pcs⟩ (fun x hx => ?_) (by rw [List.length_append]; show qs.length + 1 ≤ _; omega)
        rcases List.mem_append.mp hx with z | z
        · exact dq x z
        · rw [List.mem_singleton.mp z]
          exact dr_one hc
end
end K59

set_option Elab.async false
set_option linter.all false
set_option maxRecDepth 100000
set_option maxHeartbeats 4000000
set_option exponentiation.threshold 3000
namespace K59
open K59 PySem PySem.Spec PyProof.Rows L2 CK SX NM
open K59W (gname_eq tnext_eq c_law_random sp_random c_law_generator)
/-! ### bounds of what is drawn -/
theorem tot_meas {m : Nat} : ∀ ps : List Pn, (∀ p ∈ ps, NormP m p) → (ps.map fun p => p.1.length).sum ≤ meas ps
  | [], _ => Nat.le_refl _
  | p :: r, h => by
    have ih := tot_meas r fun q hq => h q (List.mem_cons_of_mem _ hq)
    have em : meas (p :: r) = measP p + meas r := by unfold meas; rw [List.map_cons, List.sum_cons]
    have e1 : p.1.length ≤ measP p := by
      have np := h p List.mem_cons_self
      unfold measP
      have k : 1 ≤ p.2.headD 0 + (if isOpen p.2 then 1 else 0) := by
        cases e : isPow p with
        | false =>
          rw [np.fix e]
          unfold one1
          exact Nat.le_add_right 1 _
        | true =>
          rw [if_pos (np.pow e).2]
          exact Nat.le_add_left 1 _
      exact Nat.le_mul_of_pos_right _ k
    rw [List.map_cons, List.sum_cons, em]
    omega
theorem tx_norm {m : Nat} {raw : List Pn} (l : LenF m raw) (hm : meas raw ≤ 300) : Tx m (normL raw) := by
  have nm := nm_normL l
  exact ⟨nm.lenF, fun p hp => (nm.all p hp).ne, Nat.le_trans (tot_meas _ nm.all) (Nat.le_trans (meas_normL l) hm)⟩
theorem dr_sums {m : Nat} (m3 : m ≤ 3) : ∀ raw : List Pn, (∀ p ∈ raw, DrP m p) → meas raw ≤ 30 * raw.length ∧ (wr (List.replicate m 1) raw).length ≤ 10 ^ 20 * raw.length
  | [], _ => ⟨Nat.le_refl _, Nat.le_refl _⟩
  | p :: r, h => by
    obtain ⟨i1, i3⟩ := dr_sums m3 r fun q hq => h q (List.mem_cons_of_mem _ hq)
    have d := h p List.mem_cons_self
    have em : meas (p :: r) = measP p + meas r := by unfold meas; rw [List.map_cons, List.sum_cons]
    have ew : (wr (List.replicate m 1) (p :: r)).length = p.1.length * valF p.2 (List.replicate m 1) + (wr (List.replicate m 1) r).length := by
      rw [wr, List.length_append]
      congr 1
      exact WM.pw_len _ _
    have m1 : measP p ≤ 10 * 3 := by
      unfold measP
      refine Nat.mul_le_mul d.wl ?_
      have := d.c0
      split <;> omega
    have v1 : valF p.2 (List.replicate m 1) ≤ 10 ^ 19 := by
      have l := d.len
      have c := d.c0
      have nm := d.num
      match e : p.2, l with
      | a :: q, l =>
        rw [e] at c nm
        have lq : q.length = m := by simpa using l
        have b := dot_le (B := 10 ^ 18) (c := 1) q (List.replicate m 1) (fun x hx => nm x (List.mem_cons_of_mem _ hx)) (fun x hx => by rw [List.eq_of_mem_replicate hx]; exact Nat.le_refl 1)
        rw [lq] at b
        have b2 : m * (10 ^ 18 * 1) ≤ 3 * (10 ^ 18 * 1) := Nat.mul_le_mul_right _ m3
        have c : a ≤ 2 := c
        show a + dot q (List.replicate m 1) ≤ 10 ^ 19
        omega
    have m3' : p.1.length * valF p.2 (List.replicate m 1) ≤ 10 * 10 ^ 19 := Nat.mul_le_mul d.wl v1
    rw [em, ew, List.length_cons]
    refine ⟨by omega, by omega⟩
theorem lenF_dr {m : Nat} {raw : List Pn} (h : ∀ p ∈ raw, DrP m p) : LenF m raw := fun p hp => (h p hp).len
theorem rawB_dr {m : Nat} {raw : List Pn} (h : ∀ p ∈ raw, DrP m p) (few : raw.length ≤ 9) : RawB m raw := ⟨by omega, fun p hp => ⟨(h p hp).len, fun x hx => Nat.lt_of_le_of_lt ((h p hp).num x hx) (by decide), by have := (h p hp).wl; omega⟩⟩
theorem some_norm {m n : Nat} {raw : List Pn} (l : LenF m raw) : SomeP m n (normL raw) = SomeP m n raw := funext fun z => by
  unfold SomeP
  simp only [wr_normL l]
theorem every_norm {m n : Nat} {raw : List Pn} (l : LenF m raw) : EveryP m n (normL raw) = EveryP m n raw := funext fun z => by
  unfold EveryP
  simp only [wr_normL l]
/-! ### lists of words as data -/
def dwL (zs : List (List Nat)) : PyData := .list (zs.map fun z => .str (S z))
theorem eqvAll_dwL : ∀ a b : List (List Nat), PyData.eqvAll (a.map fun z => PyData.str (S z)) (b.map fun z => PyData.str (S z)) = decide (a = b)
  | [], [] => by simp [PyData.eqvAll]
  | [], _ :: _ => by simp [PyData.eqvAll]
  | _ :: _, [] => by simp [PyData.eqvAll]
  | x :: f, y :: g => by
    have e : PyData.eqv (.str (S x)) (.str (S y)) = decide (x = y) := by
      simp only [PyData.eqv, Bool.beq_eq_decide_eq]
      by_cases h : x = y
      · rw [h, decide_eq_true rfl, decide_eq_true rfl]
      · rw [decide_eq_false h, decide_eq_false (fun z => h (S_inj z))]
    rw [List.map_cons, List.map_cons, PyData.eqvAll, eqvAll_dwL f g, e]
    simp
theorem eqv_dwL (a b : List (List Nat)) : PyData.eqv (dwL a) (dwL b) = decide (a = b) := by
  unfold dwL
  simp only [PyData.eqv, eqvAll_dwL]
theorem eqv_two (a b c d : List (List Nat)) : PyData.eqv (.list [dwL a, dwL b]) (.list [dwL c, dwL d]) = (decide (a = c) && decide (b = d)) := by
  simp only [PyData.eqv, PyData.eqvAll, eqv_dwL, Bool.and_true]
def ABs (zs : List (List Nat)) : Prop := ∀ z ∈ zs, AB z
theorem lay_words : ∀ zs : List (List Nat), ABs zs → PyData.canLayAll0 (zs.map fun z => PyData.str (S z)) = true
  | [], _ => by simp [PyData.canLayAll0]
  | x :: xs, h => by
    have e : PyData.canLay0 (.str (S x)) = true := by
      simp only [PyData.canLay0, PyData.strOk]
      rw [← Array.all_toList]
      show x.all _ = true
      rw [List.all_eq_true]
      exact fun c hc => decide_eq_true (by rcases h x List.mem_cons_self c hc with rfl | rfl <;> decide)
    rw [List.map_cons, PyData.canLayAll0, lay_words xs fun o ho => h o (List.mem_cons_of_mem _ ho), e]
    rfl
theorem deep_words : ∀ zs : List (List Nat), PyData.depthAll (zs.map fun z => PyData.str (S z)) = 0
  | [] => by simp [PyData.depthAll]
  | x :: xs => by
    rw [List.map_cons, PyData.depthAll, deep_words xs]
    simp [PyData.depth]
theorem shaped_words {zs : List (List Nat)} (h : ABs zs) : SeqAt.shaped (dwL zs) = true := by
  unfold SeqAt.shaped dwL
  rw [PyData.canLay0, lay_words zs h, PyData.depth, deep_words]
  rfl
theorem shaped_two {a b : List (List Nat)} (ha : ABs a) (hb : ABs b) : SeqAt.shaped (.list [dwL a, dwL b]) = true := by
  unfold SeqAt.shaped dwL
  simp only [PyData.canLay0, PyData.canLayAll0, lay_words a ha, lay_words b hb, PyData.depth, PyData.depthAll, deep_words]
  decide
theorem ok_words : ∀ zs : List (List Nat), ABs zs → okDs (zs.map fun z => PyData.str (S z)) = true
  | [], _ => rfl
  | x :: xs, h => by
    have e : okD (.str (S x)) = true := by
      show (S x).cps.toList.all _ = true
      rw [List.all_eq_true]
      exact fun c hc => decide_eq_true (by rcases h x List.mem_cons_self c hc with rfl | rfl <;> decide)
    rw [List.map_cons, okDs, ok_words xs fun o ho => h o (List.mem_cons_of_mem _ ho), e]
    rfl
theorem bnd_words {n : Nat} : ∀ zs : List (List Nat), (∀ z ∈ zs, z.length ≤ n) → bndDs (zs.map fun z => PyData.str (S z)) ≤ (10 * n + 4) * zs.length
  | [], _ => Nat.le_refl _
  | x :: xs, h => by
    have ih := bnd_words xs fun o ho => h o (List.mem_cons_of_mem _ ho)
    have e : bndD (.str (S x)) ≤ 10 * n + 2 := by
      have := h x List.mem_cons_self
      show 10 * (S x).length + 2 ≤ _
      rw [S_len]
      omega
    rw [List.map_cons, bndDs, List.length_cons, Nat.mul_succ]
    omega
theorem fine_words {zs : List (List Nat)} (h : ABs zs) (hl : ∀ z ∈ zs, z.length ≤ 4) (few : zs.length ≤ 1000) : Fine (dwL zs) := by
  refine fine_of (by unfold dwL; rw [okD]; exact ok_words zs h) (by unfold dwL; rw [PyData.depth, deep_words]; decide) ?_
  unfold dwL
  rw [bndD]
  have := bnd_words zs hl
  omega
theorem fine_two {a b : List (List Nat)} (ha : ABs a) (hb : ABs b) (la : ∀ z ∈ a, z.length ≤ 4) (lb : ∀ z ∈ b, z.length ≤ 4) (fa : a.length ≤ 1000) (fb : b.length ≤ 1000) : Fine (.tuple [dwL a, dwL b]) := by
  refine fine_of ?_ ?_ ?_
  · unfold dwL
    simp only [okD, okDs, ok_words a ha, ok_words b hb]
    rfl
  · unfold dwL
    simp only [PyData.depth, PyData.depthAll, deep_words]
    decide
  · have h1 := bnd_words a la
    have h2 := bnd_words b lb
    unfold dwL
    simp only [bndD, bndDs]
    omega
theorem dp_words {K : PySem.W.Frag} {H : Hp} {l : Addr} {zs : List (List Nat)} (h : H l = some (.lst (zs.map fun z => .str (S z)))) : Dp K H (.ref l) (dwL zs) := by
  refine .lst (.inl (.inl h)) ?_
  clear h
  induction zs with
  | nil => exact .nil
  | cons z r ih => exact .cons (.str _) ih
theorem wr_ab {m : Nat} {pt : List Nat} : ∀ raw : List Pn, (∀ p ∈ raw, DrP m p) → AB (wr pt raw)
  | [], _ => fun c hc => nomatch hc
  | p :: r, h => by
    rw [wr]
    refine AB.app (fun c hc => ?_) (wr_ab r fun q hq => h q (List.mem_cons_of_mem _ hq))
    obtain ⟨u, hu, hc⟩ := List.mem_flatten.mp hc
    rw [List.eq_of_mem_replicate hu] at hc
    exact (h p List.mem_cons_self).ab c hc
theorem part_ab {m n : Nat} {raw : List Pn} (h : ∀ p ∈ raw, DrP m p) {pt z : List Nat} (p : PM.Pt n (wr pt raw) z) : AB z ∧ z.length = n := by
  obtain ⟨i, hi, rfl⟩ := p
  refine ⟨fun c hc => ?_, by rw [List.length_take, List.length_drop]; omega⟩
  have hc := List.mem_of_mem_drop (List.mem_of_mem_take hc)
  exact wr_ab raw h c hc
theorem len_sub : ∀ (ws zs : List (List Nat)), zs.Nodup → (∀ z ∈ zs, z ∈ ws) → zs.length ≤ ws.length
  | [], zs, _, h => by
    cases zs with
    | nil => exact Nat.le_refl _
    | cons z r => exact absurd (h z List.mem_cons_self) List.not_mem_nil
  | w :: r, zs, nd, h => by
    by_cases e : w ∈ zs
    · have ih := len_sub r (zs.erase w) (nd.erase w) fun z hz => by
        obtain ⟨h1, h2⟩ := (List.Nodup.mem_erase_iff nd).mp hz
        rcases List.mem_cons.mp (h z h2) with q | q
        · exact absurd q h1
        · exact q
      have := List.length_erase_of_mem e
      have := List.length_pos_of_mem e
      rw [List.length_cons]
      omega
    · have ih := len_sub r zs nd fun z hz => by
        rcases List.mem_cons.mp (h z hz) with q | q
        · exact absurd (q ▸ hz) e
        · exact q
      rw [List.length_cons]
      omega
def abW : Nat → List (List Nat)
  | 0 => [[]]
  | n + 1 => (abW n).map (97 :: ·) ++ (abW n).map (98 :: ·)
theorem len_abW : ∀ n, (abW n).length = 2 ^ n
  | 0 => rfl
  | n + 1 => by rw [abW, List.length_append, List.length_map, List.length_map, len_abW n, Nat.pow_succ]; omega
theorem mem_abW : ∀ {n : Nat} {z : List Nat}, AB z → z.length = n → z ∈ abW n
  | 0, z, _, l => by rw [List.length_eq_zero_iff.mp l]; exact List.mem_cons_self
  | n + 1, [], _, l => by cases l
  | n + 1, c :: r, h, l => by
    have ih := mem_abW (n := n) (z := r) (fun x hx => h x (List.mem_cons_of_mem _ hx)) (by simpa using l)
    rw [abW, List.mem_append]
    rcases h c List.mem_cons_self with rfl | rfl
    · exact .inl (List.mem_map.mpr ⟨r, ih, rfl⟩)
    · exact .inr (List.mem_map.mpr ⟨r, ih, rfl⟩)
theorem few_words {n : Nat} {zs : List (List Nat)} (hn : n ≤ 4) (nd : zs.Nodup) (h : ∀ z ∈ zs, AB z ∧ z.length = n) : zs.length ≤ 16 := by
  have := len_sub (abW n) zs nd fun z hz => mem_abW (h z hz).1 (h z hz).2
  rw [len_abW] at this
  exact Nat.le_trans this (Nat.pow_le_pow_right (by decide) hn)
end K59

set_option Elab.async false
set_option linter.all false
set_option maxRecDepth 100000
set_option maxHeartbeats 8000000
set_option exponentiation.threshold 3000
namespace K59
open K59 PySem PySem.Spec PyProof.Rows L2 CK SX NM
open K59W (gname_eq tnext_eq c_law_random sp_random c_law_generator)
theorem pl_ne {H : Hp} {l g : Addr} {ps : List Pn} {n : Nat} (h : PL H l ps) (G : Gn n H g) : l ≠ g := fun e => by
  obtain ⟨vs, hl, hp⟩ := h
  obtain ⟨a, b, c, hg, _⟩ := G
  rw [e, hg] at hl
  cases hl
  cases hp
theorem pl_x {H H' : Hp} {l g : Addr} {ps : List Pn} {n : Nat} (h : PL H l ps) (G : Gn n H g) (s : SameX g H H') : PL H' l ps := by
  have ne := pl_ne h G
  obtain ⟨vs, hl, hp⟩ := h
  exact ⟨vs, s _ _ ne hl, hp.mono fun b xs e => SameX.tup s G e⟩
theorem ot_x {C : Addr} {H H' : Hp} {t g : Addr} {m : Nat} {ps : List Pn} {n : Nat} (h : OT C H t m ps) (G : Gn n H g) (s : SameX g H H') : OT C H' t m ps := by
  obtain ⟨l, ⟨dx, ha⟩, gl⟩ := h
  have tg : t ≠ g := fun e => by obtain ⟨_, _, _, hg, _⟩ := G; rw [e, hg] at ha; cases ha
  exact ⟨l, ⟨dx, s _ _ tg ha⟩, pl_x gl.at_ G s, gl.len, gl.ws, gl.low, gl.bf, gl.few⟩
theorem tx_dr {m : Nat} {raw : List Pn} (m3 : m ≤ 3) (dr : ∀ p ∈ raw, DrP m p) (few : raw.length ≤ 9) : Tx m (normL raw) := tx_norm (lenF_dr dr) (by have := (dr_sums m3 raw dr).1; omega)
theorem some_ab {m n : Nat} {raw : List Pn} (dr : ∀ p ∈ raw, DrP m p) {zs : List (List Nat)} (t : Told zs (SomeP m n raw)) : ∀ z ∈ zs, AB z ∧ z.length = n := fun z hz => by
  obtain ⟨pt, _, _, p⟩ := (t.2.2 z).mp hz
  exact part_ab dr p
theorem every_ab {m n : Nat} {raw : List Pn} (n1 : 1 ≤ n) (dr : ∀ p ∈ raw, DrP m p) {zs : List (List Nat)} (t : Told zs (EveryP m n raw)) : ∀ z ∈ zs, AB z ∧ z.length = n := fun z hz =>
  part_ab dr ((t.2.2 z).mp hz (List.replicate m 0) List.length_replicate fun x hx => by rw [List.eq_of_mem_replicate hx]; omega)
theorem dp_pair {K : PySem.W.Frag} {H : Hp} {r l1 l2 : Addr} {zs ys : List (List Nat)} (hr : H r = some (.tup [.ref l1, .ref l2])) (h1 : H l1 = some (.lst (zs.map fun z => .str (S z)))) (h2 : H l2 = some (.lst (ys.map fun z => .str (S z)))) : Dp K H (.ref r) (.tuple [dwL zs, dwL ys]) :=
  .tup (.inl (.inl hr)) (.cons (dp_words h1) (.cons (dp_words h2) .nil))
theorem dp_lpair {K : PySem.W.Frag} {H : Hp} {r l1 l2 : Addr} {zs ys : List (List Nat)} (hr : H r = some (.lst [.ref l1, .ref l2])) (h1 : H l1 = some (.lst (zs.map fun z => .str (S z)))) (h2 : H l2 = some (.lst (ys.map fun z => .str (S z)))) : Dp K H (.ref r) (.list [dwL zs, dwL ys]) :=
  .lst (.inl (.inl hr)) (.cons (dp_words h1) (.cons (dp_words h2) .nil))
theorem two_us {K : PySem.W.Frag} {H : Hp} {D : Addr} {as bs : List (List Nat)} {us : List V} (hD : H D = some (.lst us)) (lu : us.length = 2) (hu : ∀ j : Nat, ∀ v, us[j]? = some v → ∃ b, v = V.ref b ∧ b ≠ D ∧ H b = some (.lst (([as, bs].getD j []).map fun z => .str (S z)))) : Dp K H (.ref D) (.list [dwL as, dwL bs]) := by
  match us, lu with
  | [u, v], _ =>
    obtain ⟨b, rfl, _, hb⟩ := hu 0 u rfl
    obtain ⟨c, rfl, _, hc⟩ := hu 1 v rfl
    exact dp_lpair hD hb hc
section
variable {P : Program} {w : World} {K : PySem.W.Frag} {mg : Str → Option Value} {base : Heap} {C E_InvalidText E_InvalidNumber E_TooMany E_CountError : Addr}
theorem new_text {H1 H' : Hp} {x dx : Addr} (nx : H1 x = none) (ndx : H1 dx = none) (s : SameX x (upd (upd H1 dx (HO.own x)) x (HO.ins C dx [])) H') : Same H1 H' := fun b o e => s b o (ne_of_none e nx) (by rw [upd_ne (ne_of_none e nx), upd_ne (ne_of_none e ndx)]; exact e)
theorem mk_ot {H1 : Hp} {L x dx : Addr} {m : Nat} {ps : List Pn} {Q : Hp → Prop} {E : XK} (m3 : m ≤ 3) (g : GL H1 m L ps) (hm : meas ps ≤ 2000) (hw : Wl m ps) (nx : H1 x = none) (ndx : H1 dx = none) (ne : dx ≠ x) (k : ∀ H', Same H1 H' → OT C H' x m (normL ps) → Q H') :
    sp_init C [.ref x, .int m, .ref L] (upd (upd H1 dx (HO.own x)) x (HO.ins C dx [])) (fun v H2 => v = V.non ∧ Q H2) E := by
  have w1 := sameNew (o := HO.own x) ndx
  have nx' : upd H1 dx (HO.own x) x = none := (upd_ne (Ne.symm ne)).trans nx
  have w2 := sameNew (o := HO.ins C dx []) nx'
  refine ⟨x, dx, L, m, ps, rfl, upd_same, m3, g.same (w1.trans w2), hm, hw, fun r H' sx nr otl => ⟨rfl, ?_⟩⟩
  exact k H' (new_text (C := C) nx ndx sx) ⟨r, otl⟩
theorem good_tail (T : Txt K mg C E_InvalidText E_InvalidNumber E_TooMany E_CountError) (f0 : Addr) (cdv : Value) (A : Around) (outer : List Env) (s0 : Shared) (H0 : Hp) (E : XK) (hr : Room 8 (A.deeper (envOfC "_law_good" (C8.fnScope (topS 68)) s0.heap.objs.size f0 cdv))) (gd : A.guards = some []) :
    ∃ u, PSs (cxOf C8.CX0 P w K mg base ["_law_generator_here", "_law_many", "_law_pieces_here", "_law_letters", "_law_text", "_law_found", "_law_part", "_law_bound", "_law_shown", "_law_at", "_law_word_here", "_law_kept"] "_law_good" (C8.fnScope (topS 68)) f0 cdv A outer s0 H0 E).nox ((C8.fnBody (topS 68)).drop 5) u ∧
      ∀ (Dn : Ends) (HB H : Hp) (g l tx r l1 l2 : Addr) (raw : List Pn) (m n k0 k : Nat) (v6 v7 v8 v9 v10 v11 : Option V) (zs ys : List (List Nat)),
        PL HB l raw → (∀ p ∈ raw, DrP m p) → raw.length ≤ 9 → OT C HB tx m (normL raw) → m ≤ 3 → 1 ≤ n → n ≤ 4 → SameX g HB H → Gn k0 HB g → Gn k H g → HB l1 = none → HB l2 = none → l1 ≠ l2 →
        H r = some (.tup [.ref l1, .ref l2]) → H l1 = some (.lst (zs.map fun z => .str (S z))) → H l2 = some (.lst (ys.map fun z => .str (S z))) → Told zs (SomeP m n raw) → Told ys (EveryP m n raw) →
        (∀ H', SameX g HB H' → Gn k H' g → Dn.rt (.bl true) H') →
        u Dn [some (.ref g), some (.int (m : Nat)), some (.ref l), some (.int (n : Nat)), some (.ref tx), some (.ref r), v6, v7, v8, v9, v10, v11] H := by
  refine ⟨_, (pss_cons (ps_set (i := 11) sc_law_good.nd rfl (Or.inl rfl) (pe_callB (call_reprF hr gd) (by rfl) T.m_repr (by decide +kernel) (pa_cons (pv 5) pa_nil)))
    (pss_cons (ps_expr (pe_bm PySem.F.plainAttrs_list PySem.F.slot_list_append PySem.F.type_list_append mt_append (pe_ix ix_tup (pv 5) pe_int (fun _ _ => rfl)) (pa_cons pe_str pa_nil)))
    (pss_cons (ps_if (pt_cmpR op_ne (pe_callB (call_reprF hr gd) (by rfl) T.m_repr (by decide +kernel) (pa_cons (pe_ix ix_tup (pv 5) pe_int (fun _ _ => rfl)) pa_nil)) (pe_callB (call_reprF hr gd) (by rfl) T.m_repr (by decide +kernel) (pa_cons (pe_ix ix_tup (C8.pe_c (c_parts_of T) hr (by decide) (by rfl) (pa_cons (pv 4) (pa_cons (pv 3) pa_nil))) pe_int (fun _ _ => rfl)) pa_nil)) (nomark _))
    (pss_one (ps_ret pe_bl))
    pss_nil)
    (pss_cons (ps_expr (pe_bm PySem.F.plainAttrs_list PySem.F.slot_list_append PySem.F.type_list_append mt_append (pe_ix ix_tup (pv 5) pe_int (fun _ _ => rfl)) (pa_cons pe_str pa_nil)))
    (pss_cons (ps_if (pt_cmpR (op_neD hr.units) (pe_lc (own := [("_law_part", 6)]) (by rfl) sc_law_good.nd (pi_tup (C8.pe_c (c_parts_of T) hr (by decide) (by rfl) (pa_cons (pv 4) (pa_cons pe_int pa_nil)))) (blkOk_by (N := ["_law_generator_here", "_law_many", "_law_pieces_here", "_law_letters", "_law_text", "_law_found", "_law_part", "_law_bound", "_law_shown", "_law_at", "_law_word_here", "_law_kept"]) (sc := C8.fnScope (topS 68)) (own := [("_law_part", 6)]) (by decide +kernel)) (fun _ _ _ _ _ => (pg_name (i := 6) sc_law_good.nd rfl (Or.inl rfl))) (fun _ _ _ _ _ => pts_nil) (fun _ _ _ _ _ => (pe_callTy call_listL (by rfl) T.m_list (by decide +kernel) (pa_cons (pv 6) pa_nil)))) (C8.pe_c (c_law_due T) hr (by decide) (by rfl) (pa_cons (pv 2) (pa_cons (pv 1) (pa_cons pe_int pa_nil)))) (nomark _))
    (pss_one (ps_ret pe_bl))
    pss_nil)
    (pss_one (ps_ret (pe_cmpR op_eq (pe_callB (call_reprF hr gd) (by rfl) T.m_repr (by decide +kernel) (pa_cons (pe_cN (c_parts_of_K_number_text T) hr (by decide) (by rfl) (pk_cons (pv 3) (pk_cons (pv 4) pk_nil))) pa_nil)) (pv 11) (nomark _))))))))), ?_⟩
  intro Dn HB H g l tx r l1 l2 raw m n k0 k v6 v7 v8 v9 v10 v11 zs ys pl dr few ot m3 n1 n4 xB GB G n1' n2' l12 hr0 h1 h2 t1 t2 q
  have tx' := tx_dr m3 dr few
  have nm4 : n ^ m ≤ 64 := Nat.le_trans (Nat.pow_le_pow_left n4 m) (Nat.le_trans (Nat.pow_le_pow_right (by decide) m3) (by decide))
  have lg1 : l1 ≠ g := Gn.ne GB n1'
  have lg2 : l2 ≠ g := Gn.ne GB n2'
  have azs := some_ab dr t1
  have ays := every_ab n1 dr t2
  have lz := few_words n4 t1.1 azs
  have ly := few_words n4 t2.1 ays
  have fw : Fine (.tuple [dwL zs, dwL ys]) := fine_two (fun z hz => (azs z hz).1) (fun z hz => (ays z hz).1) (fun z hz => by have := (azs z hz).2; omega) (fun z hz => by have := (ays z hz).2; omega) (by omega) (by omega)
  have fy : Fine (dwL ys) := fine_words (fun z hz => (ays z hz).1) (fun z hz => by have := (ays z hz).2; omega) (by omega)
  have r1 : r ≠ l1 := fun e => by rw [e, h1] at hr0; cases hr0
  have r2 : r ≠ l2 := fun e => by rw [e, h2] at hr0; cases hr0
  refine ⟨_, rfl, _, _, rfl, dp_pair hr0 h1 h2, fw, ?_⟩
  refine ⟨_, rfl, r, _, 0, .ref l1, rfl, rfl, .inl (.inl hr0), rfl, .inl ⟨rfl, _, .inl (.inl h1)⟩, l1, _, _, rfl, rfl, h1, by rw [List.length_map, sizeLine_eq]; omega, ?_⟩
  generalize hz1 : V.str (Str.ofString "q") = vq
  have xB1 : SameX g HB (upd H l1 (.lst ((zs.map fun z => V.str (S z)) ++ [vq]))) := xB.upd2 n1'
  have GJ1 : Gn k (upd H l1 (.lst ((zs.map fun z => V.str (S z)) ++ [vq]))) g := G.upd lg1
  have hrJ := (upd_ne (o := .lst ((zs.map fun z => V.str (S z)) ++ [vq])) r1).trans hr0
  have h2J := (upd_ne (o := .lst ((zs.map fun z => V.str (S z)) ++ [vq])) (Ne.symm l12)).trans h2
  generalize upd H l1 (.lst ((zs.map fun z => V.str (S z)) ++ [vq])) = J1 at xB1 GJ1 hrJ h2J ⊢
  have otJ := ot_x ot GB xB1
  refine ⟨_, rfl, r, _, 1, .ref l2, rfl, rfl, .inl (.inl hrJ), rfl, _, _, rfl, dp_words h2J, fy, ?_⟩
  refine ⟨_, rfl, _, rfl, .ref tx, .int n, rfl, .inr (.inr (.inr ⟨tx, m, normL raw, n, rfl, rfl, otJ, tx', m3, n1, by omega, by omega, fun p1 p2 r' H9 as bs s9 i1 i2 i3 i12 e1 e2 e3 T1 T2 L1 L2 => ?_⟩))⟩
  rw [some_norm (lenF_dr dr)] at T1
  rw [every_norm (lenF_dr dr)] at T2
  cases T1.one t1
  cases T2.one t2
  refine ⟨r', _, 1, .ref p2, rfl, rfl, .inl (.inl e1), rfl, _, _, rfl, dp_words e3, fy, ?_⟩
  have hrK := s9 _ _ hrJ
  have h2K := s9 _ _ h2J
  have xB2 := xB1.trans (.of s9)
  have GK := GJ1.same s9
  clear e1 e2 e3 i1 i2 i3 i12 s9 T1 T2 L1 L2 hrJ h2J xB1 GJ1 otJ
  refine ⟨rfl, _, rfl, ?_⟩
  rw [decide_eq_true rfl]
  refine iteF ⟨_, rfl, r, _, 1, .ref l2, rfl, rfl, .inl (.inl hrK), rfl, .inl ⟨rfl, _, .inl (.inl h2K)⟩, l2, _, _, rfl, rfl, h2K, by rw [List.length_map, sizeLine_eq]; omega, ?_⟩
  have xB3 : SameX g HB (upd H9 l2 (.lst ((ys.map fun z => V.str (S z)) ++ [vq]))) := xB2.upd2 n2'
  have GL' : Gn k (upd H9 l2 (.lst ((ys.map fun z => V.str (S z)) ++ [vq]))) g := GK.upd lg2
  generalize upd H9 l2 (.lst ((ys.map fun z => V.str (S z)) ++ [vq])) = J2 at xB3 GL' ⊢
  have ot2 := ot_x ot GB xB3
  refine ⟨_, rfl, .ref tx, .int (1 : Nat), rfl, .inr (.inr (.inr ⟨tx, m, normL raw, 1, rfl, rfl, ot2, tx', m3, by omega, by omega, by rw [Nat.one_pow]; decide, fun p1 p2 r' H8 as bs s8 i1 i2 i3 i12 e1 e2 e3 T1 T2 L1 L2 => ?_⟩))⟩
  refine ⟨r', rfl, ⟨_, .inl (.inl e1)⟩, fun D nD => lc_tupS (K := K) (a := r') (xs := [.ref p1, .ref p2]) (fun i HH => Same H8 HH ∧ ∃ us, HH D = some (.lst us) ∧ us.length = i ∧ ∀ j : Nat, ∀ v, us[j]? = some v → ∃ b, v = V.ref b ∧ b ≠ D ∧ HH b = some (.lst (([as, bs].getD j []).map fun z => .str (S z)))) ⟨sameNew nD, [], upd_same, rfl, fun j v h => nomatch h⟩ (fun i HH _ p => .inl (.inl (p.1 _ _ e1))) (fun i v HH hi p => ?_) fun HH p => ?_⟩
  · obtain ⟨s, us, hD, lu, hu⟩ := p
    obtain ⟨b, c, rfl, ec, i2⟩ : ∃ (b : Addr) (c : List (List Nat)), v = .ref b ∧ H8 b = some (.lst (c.map fun z => .str (S z))) ∧ ([as, bs].getD i [] = c ∧ i < 2) := by
      match i, hi with
      | 0, hi => exact ⟨p1, as, (Option.some.inj hi).symm, e2, rfl, by decide⟩
      | 1, hi => exact ⟨p2, bs, (Option.some.inj hi).symm, e3, rfl, by decide⟩
      | _ + 2, hi => cases hi
    refine ⟨rfl, yes_if ⟨_, rfl, b, _, rfl, s _ _ ec, fun L nL => ?_⟩⟩
    have sL := sameNew (o := .lst (c.map fun z => V.str (S z))) nL
    have LD : L ≠ D := fun z => by rw [z, hD] at nL; cases nL
    refine ⟨us, sL _ _ hD, by rw [lu, sizeLine_eq]; omega, same_upd2 nD (s.trans sL), us ++ [.ref L], upd_same, by rw [List.length_append, lu]; rfl, fun j v h => ?_⟩
    by_cases hj : j < us.length
    · rw [List.getElem?_append_left hj] at h
      obtain ⟨b', q1, q2, q3⟩ := hu j v h
      exact ⟨b', q1, q2, by rw [upd_ne q2]; exact sL _ _ q3⟩
    · rw [List.getElem?_append_right (by omega)] at h
      have hj' : j = i := by
        have := (List.getElem?_eq_some_iff.mp h).1
        simp at this
        omega
      rw [hj', lu, Nat.sub_self] at h
      refine ⟨L, (Option.some.inj h).symm, LD, ?_⟩
      rw [upd_ne LD, upd_same, hj', i2.1]
  · obtain ⟨s, us, hD, lu, hu⟩ := p
    have dD : Dp K HH (.ref D) (.list [dwL as, dwL bs]) := two_us hD lu hu
    clear hu hD
    refine ⟨_, rfl, _, rfl, l, m, 1, raw, rfl, pl_x (pl_x pl GB xB3) (GL') (.of (s8.trans s)), rawB_dr dr few, m3, by omega, by omega, fun Dd m1 m2 HD cs ds sd nDd hDd hm1 hm2 U1 U2 => ?_⟩
    rw [some_norm (lenF_dr dr)] at T1
    rw [every_norm (lenF_dr dr)] at T2
    have as1 := some_ab dr U1
    have bs1 := every_ab (Nat.le_refl 1) dr U2
    cases T1.one U1
    cases T2.one U2
    have sh : SeqAt.shaped (.list [dwL as, dwL bs]) = true := shaped_two (fun z hz => (as1 z hz).1) fun z hz => (bs1 z hz).1
    refine ⟨_, _, dp_same sd _ _ dD, dp_lpair hDd hm1 hm2, sh, sh, false, ?_, iteF ?_⟩
    · rw [eqv_two, decide_eq_true rfl, decide_eq_true rfl]
      rfl
    have xB4 : SameX g HB HD := xB3.trans (.of (s8.trans (s.trans sd)))
    have GD := GL'.same (s8.trans (s.trans sd))
    refine ⟨_, rfl, _, rfl, rfl, rfl, .ref tx, .int n, rfl, .inr (.inr (.inr ⟨tx, m, normL raw, n, rfl, rfl, ot_x ot GB xB4, tx', m3, n1, by omega, by omega, fun p3 p4 r4 H10 as' bs' s10 j1 j2 j3 j12 f1 f2 f3 W1 W2 L3 L4 => ?_⟩))⟩
    rw [some_norm (lenF_dr dr)] at W1
    rw [every_norm (lenF_dr dr)] at W2
    cases W1.one t1
    cases W2.one t2
    refine ⟨_, _, rfl, dp_pair f1 f2 f3, fw, _, rfl, rfl, ?_⟩
    rw [decide_eq_true rfl]
    exact q H10 (xB4.trans (.of s10)) (GD.same s10)
end
end K59

set_option Elab.async false
set_option linter.all false
set_option maxRecDepth 100000
set_option maxHeartbeats 4000000
set_option exponentiation.threshold 3000
namespace K59
open K59 PySem PySem.Spec PyProof.Rows L2 CK SX NM
open K59W (gname_eq tnext_eq isWi)
section
variable {P : Program} {w : World} {K : PySem.W.Frag} {mg : Str → Option Value} {base : Heap} {C E_InvalidText E_InvalidNumber E_TooMany E_CountError : Addr}
def sp_caught (K : PySem.W.Frag) (C : Addr) : Sp := fun vs H Q _ => ∃ v z, vs = [v, z] ∧
  ((∃ d, Dp K H v d ∧ ∀ L L1 H', Same H H' → H' L1 = some (.lst [.bl true, .bl false, .bl false]) → H' L = some (.lst [.ref L1, v]) → Q (.ref L) H') ∨
   (∃ a m ps d, v = .ref a ∧ OT C H a m ps ∧ Dp K H z d ∧ isWi 1 40 d = false ∧ ∀ L L1 H', Same H H' → H' L1 = some (.lst [.bl false, .bl true, .bl false]) → H' L = some (.lst [.ref L1, z]) → Q (.ref L) H') ∨
   (∃ a m ps n, v = .ref a ∧ z = .int (n : Nat) ∧ OT C H a m ps ∧ m ≤ 3 ∧ 1 ≤ n ∧ n ≤ 40 ∧ 600 < n ^ m ∧ ∀ L L1 H', Same H H' → H' L1 = some (.lst [.bl false, .bl false, .bl true]) → H' L = some (.lst [.ref L1, .int (n ^ m : Nat)]) → Q (.ref L) H'))
theorem c_law_caught (T : Txt K mg C E_InvalidText E_InvalidNumber E_TooMany E_CountError) : CalG P w K mg base 7 "_law_caught" (sp_caught K C) := by
  refine calG T.d_law_caught sc_law_caught (fun vs H Q E h => ?_) (fun f cdv A outer s H vs Q E hr gd h => ?_)
  · obtain ⟨_, _, rfl, _⟩ := h; rfl
  · obtain ⟨v, z, rfl, h⟩ := h
    refine ⟨_, (pss_cons (ps_set (i := 2) sc_law_caught.nd rfl (Or.inl rfl) pe_non)
    (pss_cons (ps_try_keep (i := 3) rfl rfl sc_law_caught.nd rfl rfl (by rfl) (by decide) T.x_CountError.gC (fun W pn xe tk => (pss_one (ps_expr (pe_x (x_parts_of T) (tk) hr (by decide) (by rfl) (pa_cons (pv 0) (pa_cons (pv 1) pa_nil))))))
    (fun a pn => (pss_one (ps_set (i := 2) sc_law_caught.nd rfl (Or.inl rfl) (pv 3)))))
    (pss_cons (ps_set (i := 4) sc_law_caught.nd rfl (Or.inl rfl) (pe_lst (pa_cons (pe_callB call_isE (by rfl) T.m_isinstance (by decide +kernel) (pa_cons (pv 2) (pa_cons (C8.pe_gc (v := .ref E_InvalidText) (by rfl) ⟨_, T.x_InvalidText.gC, rfl⟩) pa_nil))) (pa_cons (pe_callB call_isE (by rfl) T.m_isinstance (by decide +kernel) (pa_cons (pv 2) (pa_cons (C8.pe_gc (v := .ref E_InvalidNumber) (by rfl) ⟨_, T.x_InvalidNumber.gC, rfl⟩) pa_nil))) (pa_cons (pe_callB call_isE (by rfl) T.m_isinstance (by decide +kernel) (pa_cons (pv 2) (pa_cons (C8.pe_gc (v := .ref E_TooMany) (by rfl) ⟨_, T.x_TooMany.gC, rfl⟩) pa_nil))) pa_nil)))))
    (pss_one (ps_ret (pe_lst (pa_cons (pv 4) (pa_cons (pe_ifExp (pt_cmpR op_isN (pv 2) pe_non (nomark _)) pe_non (pe_fldE (pv 2))) pa_nil)))))))), ?_⟩
    rcases h with ⟨d, dv, q⟩ | ⟨t, m, ps, d, rfl, oa, dz, nf, q⟩ | ⟨t, m, ps, n, rfl, rfl, oa, m3, n1, n40, big, q⟩
    · refine ⟨_, rfl, _, rfl, v, z, rfl, .inl ⟨d, dv, fun H' x s' ex => ⟨exm_err T.x_CountError T.s_InvalidText_CountError, fun a na => ⟨_, rfl, ?_⟩⟩⟩⟩
      have sN := s'.trans (sameNew (o := ExV a (.ref E_InvalidText) (some x)) na)
      have ea : upd H' a (ExV a (.ref E_InvalidText) (some x)) a = some (ExV a (.ref E_InvalidText) (some x)) := upd_same
      have ex' := (upd_ne (o := ExV a (.ref E_InvalidText) (some x)) (ne_of_none ex na)).trans ex
      generalize upd H' a (ExV a (.ref E_InvalidText) (some x)) = H1 at sN ea ex' ⊢
      refine ⟨_, rfl, _, _, _, _, true, rfl, .own _, .exc T.x_InvalidText.xc T.x_InvalidText.cl ea ex', kit_err T.x_InvalidText T.s_InvalidText_InvalidText, ?_⟩
      refine ⟨_, rfl, _, _, _, _, false, rfl, .own _, .exc T.x_InvalidText.xc T.x_InvalidText.cl ea ex', kit_err T.x_InvalidNumber T.s_InvalidText_InvalidNumber, ?_⟩
      refine ⟨_, rfl, _, _, _, _, false, rfl, .own _, .exc T.x_InvalidText.xc T.x_InvalidText.cl ea ex', kit_err T.x_TooMany T.s_InvalidText_TooMany, ?_⟩
      refine ⟨by show 3 ≤ sizeLine; decide, fun L1 nL1 => ?_⟩
      have s1 := sameNew (o := .lst [.bl true, .bl false, .bl false]) nL1
      have hL1 : upd H1 L1 (.lst [.bl true, .bl false, .bl false]) L1 = some (.lst [.bl true, .bl false, .bl false]) := upd_same
      replace ea := s1 _ _ ea
      replace ex' := s1 _ _ ex'
      generalize upd H1 L1 (.lst [.bl true, .bl false, .bl false]) = H2 at s1 hL1 ea ex' ⊢
      dsimp only
      rw [gname_eq]
      refine ⟨_, rfl, _, rfl, rfl, false, rfl, iteF ⟨_, rfl, a, _, x, _, v, rfl, T.x_InvalidText.xf, T.x_InvalidText.no, ea, ex', rfl, by show 2 ≤ sizeLine; decide, fun L nL => q L L1 _ (sN.trans (s1.trans (sameNew nL))) (sameNew nL _ _ hL1) upd_same⟩⟩
    · refine ⟨_, rfl, _, rfl, .ref t, z, rfl, .inr (.inl ⟨t, m, ps, d, rfl, oa, dz, nf, fun H' x s' ex => ⟨exm_err T.x_CountError T.s_InvalidNumber_CountError, fun a na => ⟨_, rfl, ?_⟩⟩⟩)⟩
      have sN := s'.trans (sameNew (o := ExV a (.ref E_InvalidNumber) (some x)) na)
      have ea : upd H' a (ExV a (.ref E_InvalidNumber) (some x)) a = some (ExV a (.ref E_InvalidNumber) (some x)) := upd_same
      have ex' := (upd_ne (o := ExV a (.ref E_InvalidNumber) (some x)) (ne_of_none ex na)).trans ex
      generalize upd H' a (ExV a (.ref E_InvalidNumber) (some x)) = H1 at sN ea ex' ⊢
      refine ⟨_, rfl, _, _, _, _, false, rfl, .own _, .exc T.x_InvalidNumber.xc T.x_InvalidNumber.cl ea ex', kit_err T.x_InvalidText T.s_InvalidNumber_InvalidText, ?_⟩
      refine ⟨_, rfl, _, _, _, _, true, rfl, .own _, .exc T.x_InvalidNumber.xc T.x_InvalidNumber.cl ea ex', kit_err T.x_InvalidNumber T.s_InvalidNumber_InvalidNumber, ?_⟩
      refine ⟨_, rfl, _, _, _, _, false, rfl, .own _, .exc T.x_InvalidNumber.xc T.x_InvalidNumber.cl ea ex', kit_err T.x_TooMany T.s_InvalidNumber_TooMany, ?_⟩
      refine ⟨by show 3 ≤ sizeLine; decide, fun L1 nL1 => ?_⟩
      have s1 := sameNew (o := .lst [.bl false, .bl true, .bl false]) nL1
      have hL1 : upd H1 L1 (.lst [.bl false, .bl true, .bl false]) L1 = some (.lst [.bl false, .bl true, .bl false]) := upd_same
      replace ea := s1 _ _ ea
      replace ex' := s1 _ _ ex'
      generalize upd H1 L1 (.lst [.bl false, .bl true, .bl false]) = H2 at s1 hL1 ea ex' ⊢
      dsimp only
      rw [gname_eq]
      refine ⟨_, rfl, _, rfl, rfl, false, rfl, iteF ⟨_, rfl, a, _, x, _, z, rfl, T.x_InvalidNumber.xf, T.x_InvalidNumber.no, ea, ex', rfl, by show 2 ≤ sizeLine; decide, fun L nL => q L L1 _ (sN.trans (s1.trans (sameNew nL))) (sameNew nL _ _ hL1) upd_same⟩⟩
    · refine ⟨_, rfl, _, rfl, .ref t, .int n, rfl, .inr (.inr (.inl ⟨t, m, ps, n, rfl, rfl, oa, m3, n1, n40, big, fun H' x s' ex => ⟨exm_err T.x_CountError T.s_TooMany_CountError, fun a na => ⟨_, rfl, ?_⟩⟩⟩))⟩
      have sN := s'.trans (sameNew (o := ExV a (.ref E_TooMany) (some x)) na)
      have ea : upd H' a (ExV a (.ref E_TooMany) (some x)) a = some (ExV a (.ref E_TooMany) (some x)) := upd_same
      have ex' := (upd_ne (o := ExV a (.ref E_TooMany) (some x)) (ne_of_none ex na)).trans ex
      generalize upd H' a (ExV a (.ref E_TooMany) (some x)) = H1 at sN ea ex' ⊢
      refine ⟨_, rfl, _, _, _, _, false, rfl, .own _, .exc T.x_TooMany.xc T.x_TooMany.cl ea ex', kit_err T.x_InvalidText T.s_TooMany_InvalidText, ?_⟩
      refine ⟨_, rfl, _, _, _, _, false, rfl, .own _, .exc T.x_TooMany.xc T.x_TooMany.cl ea ex', kit_err T.x_InvalidNumber T.s_TooMany_InvalidNumber, ?_⟩
      refine ⟨_, rfl, _, _, _, _, true, rfl, .own _, .exc T.x_TooMany.xc T.x_TooMany.cl ea ex', kit_err T.x_TooMany T.s_TooMany_TooMany, ?_⟩
      refine ⟨by show 3 ≤ sizeLine; decide, fun L1 nL1 => ?_⟩
      have s1 := sameNew (o := .lst [.bl false, .bl false, .bl true]) nL1
      have hL1 : upd H1 L1 (.lst [.bl false, .bl false, .bl true]) L1 = some (.lst [.bl false, .bl false, .bl true]) := upd_same
      replace ea := s1 _ _ ea
      replace ex' := s1 _ _ ex'
      generalize upd H1 L1 (.lst [.bl false, .bl false, .bl true]) = H2 at s1 hL1 ea ex' ⊢
      dsimp only
      rw [gname_eq]
      refine ⟨_, rfl, _, rfl, rfl, false, rfl, iteF ⟨_, rfl, a, _, x, _, .int (n ^ m : Nat), rfl, T.x_TooMany.xf, T.x_TooMany.no, ea, ex', rfl, by show 2 ≤ sizeLine; decide, fun L nL => q L L1 _ (sN.trans (s1.trans (sameNew nL))) (sameNew nL _ _ hL1) upd_same⟩⟩
end
end K59

set_option Elab.async false
set_option linter.all false
set_option maxRecDepth 100000
set_option maxHeartbeats 8000000
set_option exponentiation.threshold 3000
namespace K59
open K59 PySem PySem.Spec PyProof.Rows L2 CK SX NM
open K59W (gname_eq tnext_eq isWi)
/-! ### what is told, by computation -/
def prtL (n : Nat) (w : List Nat) : List (List Nat) := (List.range (w.length + 1 - n)).map fun i => (w.drop i).take n
theorem mem_prt {n : Nat} {w z : List Nat} : z ∈ prtL n w ↔ PM.Pt n w z := by
  unfold prtL PM.Pt
  rw [List.mem_map]
  constructor
  · rintro ⟨i, hi, rfl⟩
    have := List.mem_range.mp hi
    exact ⟨i, by omega, rfl⟩
  · rintro ⟨i, hi, rfl⟩
    exact ⟨i, List.mem_range.mpr (by omega), rfl⟩
def someB (m n : Nat) (raw : List Pn) (zs : List (List Nat)) : Bool := decide zs.Nodup && (decide (zs.Pairwise fun a b => leW a b = true) && (((box m n).all fun pt => (prtL n (wr pt raw)).all fun z => decide (z ∈ zs)) && zs.all fun z => (box m n).any fun pt => decide (z ∈ prtL n (wr pt raw))))
def everyB (m n : Nat) (raw : List Pn) (ys : List (List Nat)) : Bool := decide ys.Nodup && (decide (ys.Pairwise fun a b => leW a b = true) && ((ys.all fun z => (box m (n - 1)).all fun pt => decide (z ∈ prtL n (wr pt raw))) && (prtL n (wr (List.replicate m 0) raw)).all fun z => decide (z ∈ ys) || (box m (n - 1)).any fun pt => !decide (z ∈ prtL n (wr pt raw))))
theorem told_some {m n : Nat} {raw : List Pn} {zs : List (List Nat)} (h : someB m n raw zs = true) : Told zs (SomeP m n raw) := by
  obtain ⟨h1, h⟩ := Bool.and_eq_true_iff.mp h
  obtain ⟨h2, h⟩ := Bool.and_eq_true_iff.mp h
  obtain ⟨h3, h4⟩ := Bool.and_eq_true_iff.mp h
  refine ⟨of_decide_eq_true h1, of_decide_eq_true h2, fun z => ⟨fun hz => ?_, ?_⟩⟩
  · obtain ⟨pt, hp, h⟩ := List.any_eq_true.mp (List.all_eq_true.mp h4 z hz)
    obtain ⟨a, b⟩ := mem_box.mp hp
    exact ⟨pt, a, b, mem_prt.mp (of_decide_eq_true h)⟩
  · rintro ⟨pt, a, b, h⟩
    exact of_decide_eq_true (List.all_eq_true.mp (List.all_eq_true.mp h3 pt (mem_box.mpr ⟨a, b⟩)) z (mem_prt.mpr h))
theorem told_every {m n : Nat} {raw : List Pn} {ys : List (List Nat)} (n1 : 1 ≤ n) (h : everyB m n raw ys = true) : Told ys (EveryP m n raw) := by
  obtain ⟨h1, h⟩ := Bool.and_eq_true_iff.mp h
  obtain ⟨h2, h⟩ := Bool.and_eq_true_iff.mp h
  obtain ⟨h3, h4⟩ := Bool.and_eq_true_iff.mp h
  refine ⟨of_decide_eq_true h1, of_decide_eq_true h2, fun z => ⟨fun hz pt a b => ?_, fun h => ?_⟩⟩
  · exact mem_prt.mp (of_decide_eq_true (List.all_eq_true.mp (List.all_eq_true.mp h3 z hz) pt (mem_box.mpr ⟨a, fun x hx => by have := b x hx; omega⟩)))
  · have h0 := h (List.replicate m 0) List.length_replicate fun x hx => by rw [List.eq_of_mem_replicate hx]; omega
    rcases Bool.or_eq_true_iff.mp (List.all_eq_true.mp h4 z (mem_prt.mpr h0)) with e | e
    · exact of_decide_eq_true e
    · obtain ⟨pt, hp, e⟩ := List.any_eq_true.mp e
      obtain ⟨a, b⟩ := mem_box.mp hp
      have := h pt a fun x hx => by have := b x hx; omega
      rw [decide_eq_true (mem_prt.mpr this)] at e
      cases e
theorem told_two {m n : Nat} {raw : List Pn} {zs ys as bs : List (List Nat)} (l : LenF m raw) (n1 : 1 ≤ n) (h1 : someB m n raw zs = true) (h2 : everyB m n raw ys = true) (t1 : Told as (SomeP m n (normL raw))) (t2 : Told bs (EveryP m n (normL raw))) : as = zs ∧ bs = ys := by
  rw [some_norm l] at t1
  rw [every_norm l] at t2
  exact ⟨t1.one (told_some h1), t2.one (told_every n1 h2)⟩
end K59

set_option Elab.async false
set_option linter.all false
set_option maxRecDepth 100000
set_option maxHeartbeats 8000000
set_option exponentiation.threshold 3000
namespace K59
open K59 PySem PySem.Spec PyProof.Rows L2 CK SX NM
open K59W (gname_eq tnext_eq isWi)
theorem str_a : Str.ofString "a" = S [97] := by decide +kernel
theorem str_1 : Str.ofString "1" = S [49] := by decide +kernel
theorem bf_small {ps : List Pn} (h : ∀ p ∈ ps, ∀ x ∈ p.2, x ≤ 2) : ∀ p ∈ ps, Bf p.2 := fun p hp x hx => Nat.lt_of_le_of_lt (h p hp x hx) (Nat.lt_of_lt_of_le (by decide : 2 < 2 ^ 10) (Nat.pow_le_pow_right (by decide) (by decide)))
def ans (b c d : Bool) (x : PyData) : PyData := .list [.list [.bool b, .bool c, .bool d], x]
theorem dp_ans {K : PySem.W.Frag} {H : Hp} {L L1 : Addr} {b c d : Bool} {v : V} {x : PyData} (h : H L = some (.lst [.ref L1, v])) (h1 : H L1 = some (.lst [.bl b, .bl c, .bl d])) (hx : Dp K H v x) : Dp K H (.ref L) (ans b c d x) := .lst (.inl (.inl h)) (.cons (.lst (.inl (.inl h1)) (.cons (.bl _) (.cons (.bl _) (.cons (.bl _) .nil)))) (.cons hx .nil))
section
variable {P : Program} {w : World} {K : PySem.W.Frag} {mg : Str → Option Value} {base : Heap} {C E_InvalidText E_InvalidNumber E_TooMany E_CountError : Addr}
theorem law_7 (T : Txt K mg C E_InvalidText E_InvalidNumber E_TooMany E_CountError) (f0 : Addr) (cdv : Value) (A : Around) (outer : List Env) (s0 : Shared) (H0 : Hp) (E : XK) (hr : Room 9 (A.deeper (envOfC "law" (C8.fnScope (topS 70)) s0.heap.objs.size f0 cdv))) (gd : A.guards = some []) :
    ∃ u, PSs (cxOf C8.CX0 P w K mg base ["_law_script", "_law_index", "_law_generator_here", "_law_many", "_law_pieces_here", "_law_text", "_law_two", "_law_bad", "_law_chain", "_law_three"] "law" (C8.fnScope (topS 70)) f0 cdv A outer s0 H0 E).nox ((C8.fnBody (topS 70)).drop 7) u ∧
      ∀ (Dn : Ends) (H : Hp) (tw : Addr) (v0 v1 v2 v3 v4 v5 v6 v7 v8 v9 : Option V), OT C H tw 2 (normL ([([97], [0, 1, 0]), ([98], [0, 0, 1])] : List Pn)) → (∀ H', Dn.rt (.bl true) H') → u Dn [v0, v1, v2, v3, v4, v5, some (.ref tw), v7, v8, v9] H := by
  refine ⟨_, (pss_cons (ps_set (i := 9) sc_law.nd rfl (Or.inl rfl) (C8.pe_mk (n_OpenText T) hr (by decide) (by rfl) (pa_cons pe_int (pa_cons (pe_lst (pa_cons (pe_tup (pa_cons pe_str (pa_cons (pe_tup (pa_cons pe_int (pa_cons pe_int (pa_cons pe_int (pa_cons pe_int pa_nil))))) pa_nil))) pa_nil)) pa_nil))))
    (pss_cons (ps_for PassesOwn.never rfl (pi_list (pe_lst (pa_cons pe_non (pa_cons pe_int (pa_cons (pe_un un_neg pe_int) (pa_cons pe_int (pa_cons pe_bl (pa_cons pe_str pa_nil)))))))) (pg_name (i := 7) sc_law.nd rfl (Or.inl rfl))
    (pss_one (ps_if (pt_cmpR (op_neD hr.units) (pe_cG (c_law_caught T) hr gd (by decide) (by rfl) (pa_cons (pv 9) (pa_cons (pv 7) pa_nil))) (pe_lst (pa_cons (pe_lst (pa_cons pe_bl (pa_cons pe_bl (pa_cons pe_bl pa_nil)))) (pa_cons (pv 7) pa_nil))) (nomark _))
    (pss_one (ps_ret pe_bl))
    pss_nil)))
    (pss_one (ps_ret (pe_and (pe_cmpR (op_eqD hr.units) (pe_cG (c_law_caught T) hr gd (by decide) (by rfl) (pa_cons (pv 9) (pa_cons pe_int pa_nil))) (pe_lst (pa_cons (pe_lst (pa_cons pe_bl (pa_cons pe_bl (pa_cons pe_bl pa_nil)))) (pa_cons pe_int pa_nil))) (nomark _)) (pe_one (pe_cmpR (op_eqD hr.units) (pe_cG (c_law_caught T) hr gd (by decide) (by rfl) (pa_cons (pv 6) (pa_cons pe_int pa_nil))) (pe_lst (pa_cons (pe_lst (pa_cons pe_bl (pa_cons pe_bl (pa_cons pe_bl pa_nil)))) (pa_cons pe_int pa_nil))) (nomark _)))))))), ?_⟩
  intro Dn H tw v0 v1 v2 v3 v4 v5 v6 v7 v8 v9 otw q
  have sB : Same H H := Same.refl _
  rw [str_a]
  refine ⟨by show 4 ≤ sizeLine; decide, fun f1 n_f1 => ?_⟩
  have s_f1 := sameNew (o := .tup [.int 1, .int 0, .int 0, .int 0]) n_f1
  have h_f1 : upd H f1 (.tup [.int 1, .int 0, .int 0, .int 0]) f1 = some (.tup [.int 1, .int 0, .int 0, .int 0]) := upd_same
  generalize upd H f1 (.tup [.int 1, .int 0, .int 0, .int 0]) = H_f1 at s_f1 h_f1 ⊢
  replace otw := otw.same s_f1
  replace sB := sB.trans s_f1
  refine ⟨by show 2 ≤ sizeLine; decide, fun p1 n_p1 => ?_⟩
  have s_p1 := sameNew (o := .tup [.str (S [97]), .ref f1]) n_p1
  have h_p1 : upd H_f1 p1 (.tup [.str (S [97]), .ref f1]) p1 = some (.tup [.str (S [97]), .ref f1]) := upd_same
  generalize upd H_f1 p1 (.tup [.str (S [97]), .ref f1]) = H_p1 at s_p1 h_p1 ⊢
  replace h_f1 := s_p1 _ _ h_f1
  replace otw := otw.same s_p1
  replace sB := sB.trans s_p1
  refine ⟨by show 1 ≤ sizeLine; decide, fun L3 n_L3 => ?_⟩
  have s_L3 := sameNew (o := .lst [.ref p1]) n_L3
  have h_L3 : upd H_p1 L3 (.lst [.ref p1]) L3 = some (.lst [.ref p1]) := upd_same
  generalize upd H_p1 L3 (.lst [.ref p1]) = H_L3 at s_L3 h_L3 ⊢
  replace h_f1 := s_L3 _ _ h_f1
  replace h_p1 := s_L3 _ _ h_p1
  replace otw := otw.same s_L3
  replace sB := sB.trans s_L3
  have g2 : GL H_L3 3 L3 ([([97], [1, 0, 0, 0])] : List Pn) := ⟨⟨_, h_L3, (.cons ⟨f1, h_p1, h_f1⟩ .nil)⟩, by unfold LenF; decide +kernel, by unfold Ws; decide +kernel, by unfold LowP Low; decide +kernel, bf_small (by decide +kernel), by decide +kernel⟩
  refine fun x2 dx2 nx2 ndx2 ne2 => mk_ot (by decide) g2 (by decide +kernel) (by unfold Wl; decide +kernel) nx2 ndx2 ne2 fun J2 j2 ot3 => ?_
  have tx_ot3 : Tx 3 (normL ([([97], [1, 0, 0, 0])] : List Pn)) := tx_norm g2.len (by decide +kernel)
  clear g2
  replace h_f1 := j2 _ _ h_f1
  replace h_p1 := j2 _ _ h_p1
  replace h_L3 := j2 _ _ h_L3
  replace otw := otw.same j2
  replace sB := sB.trans j2
  clear h_p1 h_f1 h_L3
  dsimp only
  rw [gname_eq]
  rw [str_1]
  refine ⟨1, rfl, ?_⟩
  refine ⟨by show 6 ≤ sizeLine; decide, fun a1 n1 => ?_⟩
  have s1 := sameNew (o := .lst [.non, (.int 0), (.int (-1)), (.int 41), (.bl true), (.str (S [49]))]) n1
  have hB : upd J2 a1 (.lst [.non, (.int 0), (.int (-1)), (.int 41), (.bl true), (.str (S [49]))]) a1 = some (.lst [.non, (.int 0), (.int (-1)), (.int 41), (.bl true), (.str (S [49]))]) := upd_same
  generalize upd J2 a1 (.lst [.non, (.int 0), (.int (-1)), (.int 41), (.bl true), (.str (S [49]))]) = H1 at s1 hB ⊢
  replace sB := sB.trans s1
  have da : DpAll K H1 [.non, (.int 0), (.int (-1)), (.int 41), (.bl true), (.str (S [49]))] [.none, (.int 0), (.int (-1)), (.int 41), (.bool true), (.str (S [49]))] := (.cons .non (.cons (.int _) (.cons (.int _) (.cons (.int _) (.cons (.bl _) (.cons (.str _) .nil))))))
  replace ot3 := ot3.same s1
  replace otw := otw.same s1
  have aP : ([.none, (.int 0), (.int (-1)), (.int 41), (.bool true), (.str (S [49]))] : List PyData).all (fun d => !isWi 1 40 d && SeqAt.shaped (ans false true false d)) = true := by decide +kernel
  refine ⟨a1, rfl, ⟨_, .inl (.inl hB)⟩, for_list (K := K) (a := a1) (xs := [.non, (.int 0), (.int (-1)), (.int 41), (.bl true), (.str (S [49]))]) (fun i σ H' => Same H1 H' ∧ ∃ y7, σ = [v0, v1, v2, v3, v4, v5, some (.ref tw), y7, v8, some (.ref x2)]) ⟨Same.refl _, v7, rfl⟩ (fun i σ H' _ p => .inl (.inl (p.1 _ _ hB))) (fun i y σ H' hi p => ?_) (fun σ H' p => ?_)⟩
  · obtain ⟨sL, y7, rfl⟩ := p
    obtain ⟨dy, hdy, d_y⟩ := dpAll_get da hi
    obtain ⟨p1, p2⟩ := Bool.and_eq_true_iff.mp (List.all_eq_true.mp aP dy (List.mem_of_getElem? hdy))
    replace d_y := dp_same sL _ _ d_y
    rw [gname_eq]
    refine ⟨_, rfl, _, rfl, .ref x2, y, rfl, .inr (.inl ⟨x2, 3, _, dy, rfl, ot3.same sL, d_y, not_true p1, fun L L1 H1 s1 h1 h2 => ?_⟩)⟩
    refine ⟨by show 3 ≤ sizeLine; decide, fun A1 nA1 => ?_⟩
    have s2 := sameNew (o := .lst [.bl false, .bl true, .bl false]) nA1
    have hA1 : upd H1 A1 (.lst [.bl false, .bl true, .bl false]) A1 = some (.lst [.bl false, .bl true, .bl false]) := upd_same
    generalize upd H1 A1 (.lst [.bl false, .bl true, .bl false]) = H2 at s2 hA1 ⊢
    refine ⟨_, rfl, by show 2 ≤ sizeLine; decide, fun A2 nA2 => ?_⟩
    have s3 := sameNew (o := .lst [.ref A1, y]) nA2
    have s23 := s2.trans s3
    have d1 := dp_ans (K := K) (s23 _ _ h2) (s23 _ _ h1) (dp_same (s1.trans s23) _ _ d_y)
    have d2 := dp_ans (K := K) (upd_same (H := H2) (a := A2) (o := .lst [.ref A1, y])) (s3 _ _ hA1) (dp_same (s1.trans s23) _ _ d_y)
    refine ⟨_, _, d1, d2, p2, p2, false, ?_, iteF ⟨sL.trans (s1.trans s23), _, rfl⟩⟩
    rw [SeqAt.eqv_refl _ (SeqAt.canLay_of_shaped p2)]
    rfl
  · obtain ⟨sL, y7, rfl⟩ := p
    replace ot3 := ot3.same sL
    replace otw := otw.same sL
    refine ⟨_, rfl, .ref x2, .int 9, rfl, .inr (.inr ⟨x2, 3, _, 9, rfl, rfl, ot3, by decide, by decide, by decide, by decide, fun L L1 H1 s1 h1 h2 => ?_⟩)⟩
    refine ⟨by show 3 ≤ sizeLine; decide, fun A1 nA1 => ?_⟩
    have s1a := sameNew (o := .lst [.bl false, .bl false, .bl true]) nA1
    have hA1 : upd H1 A1 (.lst [.bl false, .bl false, .bl true]) A1 = some (.lst [.bl false, .bl false, .bl true]) := upd_same
    generalize upd H1 A1 (.lst [.bl false, .bl false, .bl true]) = J1 at s1a hA1 ⊢
    refine ⟨by show 2 ≤ sizeLine; decide, fun B1 nB1 => ?_⟩
    have s1b := sameNew (o := .lst [.ref A1, .int 729]) nB1
    have s1c := s1a.trans s1b
    have d1a := dp_ans (K := K) (s1c _ _ h2) (s1c _ _ h1) (.int 729)
    have d1b := dp_ans (K := K) (upd_same (H := J1) (a := B1) (o := .lst [.ref A1, .int 729])) (s1b _ _ hA1) (.int 729)
    refine ⟨_, _, d1a, d1b, by decide +kernel, by decide +kernel, ?_⟩
    rw [show PyData.eqv (ans false false true (.int 729)) (ans false false true (.int 729)) = true by decide +kernel]
    refine ⟨true, rfl, iteT ?_⟩
    replace otw := otw.same (s1.trans s1c)
    clear h1 h2
    refine ⟨_, rfl, .ref tw, .int 25, rfl, .inr (.inr ⟨tw, 2, _, 25, rfl, rfl, otw, by decide, by decide, by decide, by decide, fun L L1 H2 s2 h1 h2 => ?_⟩)⟩
    refine ⟨by show 3 ≤ sizeLine; decide, fun A2 nA2 => ?_⟩
    have s2a := sameNew (o := .lst [.bl false, .bl false, .bl true]) nA2
    have hA2 : upd H2 A2 (.lst [.bl false, .bl false, .bl true]) A2 = some (.lst [.bl false, .bl false, .bl true]) := upd_same
    generalize upd H2 A2 (.lst [.bl false, .bl false, .bl true]) = J2 at s2a hA2 ⊢
    refine ⟨by show 2 ≤ sizeLine; decide, fun B2 nB2 => ?_⟩
    have s2b := sameNew (o := .lst [.ref A2, .int 625]) nB2
    have s2c := s2a.trans s2b
    have d2a := dp_ans (K := K) (s2c _ _ h2) (s2c _ _ h1) (.int 625)
    have d2b := dp_ans (K := K) (upd_same (H := J2) (a := B2) (o := .lst [.ref A2, .int 625])) (s2b _ _ hA2) (.int 625)
    refine ⟨_, _, d2a, d2b, by decide +kernel, by decide +kernel, ?_⟩
    rw [show PyData.eqv (ans false false true (.int 625)) (ans false false true (.int 625)) = true by decide +kernel]
    exact q _
end
end K59

set_option Elab.async false
set_option linter.all false
set_option maxRecDepth 100000
set_option maxHeartbeats 8000000
set_option exponentiation.threshold 3000
namespace K59
open K59 PySem PySem.Spec PyProof.Rows L2 CK SX NM
open K59W (gname_eq tnext_eq isWi)
theorem str_ab : Str.ofString "ab" = S [97, 98] := by decide +kernel
theorem str_b : Str.ofString "b" = S [98] := by decide +kernel
theorem str_aa : Str.ofString "aa" = S [97, 97] := by decide +kernel
theorem str_ba : Str.ofString "ba" = S [98, 97] := by decide +kernel
theorem str_bb : Str.ofString "bb" = S [98, 98] := by decide +kernel
section
variable {P : Program} {w : World} {K : PySem.W.Frag} {mg : Str → Option Value} {base : Heap} {C E_InvalidText E_InvalidNumber E_TooMany E_CountError : Addr}
theorem law_4 (T : Txt K mg C E_InvalidText E_InvalidNumber E_TooMany E_CountError) (f0 : Addr) (cdv : Value) (A : Around) (outer : List Env) (s0 : Shared) (H0 : Hp) (E : XK) (hr : Room 9 (A.deeper (envOfC "law" (C8.fnScope (topS 70)) s0.heap.objs.size f0 cdv))) (gd : A.guards = some []) :
    ∃ u, PSs (cxOf C8.CX0 P w K mg base ["_law_script", "_law_index", "_law_generator_here", "_law_many", "_law_pieces_here", "_law_text", "_law_two", "_law_bad", "_law_chain", "_law_three"] "law" (C8.fnScope (topS 70)) f0 cdv A outer s0 H0 E).nox ((C8.fnBody (topS 70)).drop 4) u ∧
      ∀ (Dn : Ends) (H : Hp) (tw : Addr) (v0 v1 v2 v3 v4 v5 v6 v7 v8 v9 : Option V), OT C H tw 2 (normL ([([97], [0, 1, 0]), ([98], [0, 0, 1])] : List Pn)) → (∀ H', Dn.rt (.bl true) H') → u Dn [v0, v1, v2, v3, v4, v5, some (.ref tw), v7, v8, v9] H := by
  obtain ⟨u, hu, tail⟩ := law_7 (P := P) (w := w) (base := base) T f0 cdv A outer s0 H0 E hr gd
  refine ⟨_, (pss_cons (ps_for PassesOwn.never rfl (pi_list (pe_lst (pa_cons pe_non (pa_cons pe_str (pa_cons pe_int (pa_cons (pe_lst (pa_cons (pe_tup (pa_cons pe_str (pa_cons (pe_tup (pa_cons pe_int (pa_cons pe_int pa_nil))) pa_nil))) pa_nil)) pa_nil)))))) (pg_name (i := 7) sc_law.nd rfl (Or.inl rfl))
    (pss_one (ps_if (pt_cmpR (op_neD hr.units) (pe_cG (c_law_caught T) hr gd (by decide) (by rfl) (pa_cons (pv 7) (pa_cons pe_non pa_nil))) (pe_lst (pa_cons (pe_lst (pa_cons pe_bl (pa_cons pe_bl (pa_cons pe_bl pa_nil)))) (pa_cons (pv 7) pa_nil))) (nomark _))
    (pss_one (ps_ret pe_bl))
    pss_nil)))
    (pss_cons (ps_set (i := 8) sc_law.nd rfl (Or.inl rfl) (pe_lst (pa_cons (pe_tup (pa_cons pe_str (pa_cons (pe_tup (pa_cons pe_int (pa_cons pe_int (pa_cons pe_int (pa_cons pe_int pa_nil))))) pa_nil))) (pa_cons (pe_tup (pa_cons pe_str (pa_cons (pe_tup (pa_cons pe_int (pa_cons pe_int (pa_cons pe_int (pa_cons pe_int pa_nil))))) pa_nil))) (pa_cons (pe_tup (pa_cons pe_str (pa_cons (pe_tup (pa_cons pe_int (pa_cons pe_int (pa_cons pe_int (pa_cons pe_int pa_nil))))) pa_nil))) (pa_cons (pe_tup (pa_cons pe_str (pa_cons (pe_tup (pa_cons pe_int (pa_cons pe_int (pa_cons pe_int (pa_cons pe_int pa_nil))))) pa_nil))) (pa_cons (pe_tup (pa_cons pe_str (pa_cons (pe_tup (pa_cons pe_int (pa_cons pe_int (pa_cons pe_int (pa_cons pe_int pa_nil))))) pa_nil))) pa_nil)))))))
    (pss_cons (ps_if (pt_cmpR (op_neD hr.units) (C8.pe_c (c_parts_of T) hr (by decide) (by rfl) (pa_cons (C8.pe_mk (n_OpenText T) hr (by decide) (by rfl) (pa_cons pe_int (pa_cons (pe_op op_cat (pv 8) (pe_lst (pa_cons (pe_tup (pa_cons pe_str (pa_cons (pe_tup (pa_cons pe_int (pa_cons pe_int (pa_cons pe_int (pa_cons pe_int pa_nil))))) pa_nil))) (pa_cons (pe_tup (pa_cons pe_str (pa_cons (pe_tup (pa_cons pe_int (pa_cons pe_int (pa_cons pe_int (pa_cons pe_int pa_nil))))) pa_nil))) pa_nil)))) pa_nil))) (pa_cons pe_int pa_nil))) (pe_tup (pa_cons (pe_lst (pa_cons pe_str (pa_cons pe_str (pa_cons pe_str (pa_cons pe_str pa_nil))))) (pa_cons (pe_lst pa_nil) pa_nil))) (nomark _))
    (pss_one (ps_ret pe_bl))
    pss_nil)
    hu))), ?_⟩
  intro Dn H tw v0 v1 v2 v3 v4 v5 v6 v7 v8 v9 otw q
  have sB : Same H H := Same.refl _
  rw [str_ab, str_a, str_b, str_aa, str_ba, str_bb]
  refine ⟨by show 2 ≤ sizeLine; decide, fun a2 n2 => ?_⟩
  have s2 := sameNew (o := .tup [(.int 0), (.int 1)]) n2
  have h2 : upd H a2 (.tup [(.int 0), (.int 1)]) a2 = some (.tup [(.int 0), (.int 1)]) := upd_same
  generalize upd H a2 (.tup [(.int 0), (.int 1)]) = H2 at s2 h2 ⊢
  replace sB := sB.trans s2
  have d_2 : Dp K H2 (.ref a2) (.tuple [(.int 0), (.int 1)]) := .tup (.inl (.inl h2)) (.cons (.int _) (.cons (.int _) .nil))
  replace otw := otw.same s2
  refine ⟨by show 2 ≤ sizeLine; decide, fun a3 n3 => ?_⟩
  have s3 := sameNew (o := .tup [(.str (S [97])), (.ref a2)]) n3
  have h3 : upd H2 a3 (.tup [(.str (S [97])), (.ref a2)]) a3 = some (.tup [(.str (S [97])), (.ref a2)]) := upd_same
  generalize upd H2 a3 (.tup [(.str (S [97])), (.ref a2)]) = H3 at s3 h3 ⊢
  replace d_2 := dp_same s3 _ _ d_2
  replace sB := sB.trans s3
  have d_3 : Dp K H3 (.ref a3) (.tuple [(.str (S [97])), (.tuple [(.int 0), (.int 1)])]) := .tup (.inl (.inl h3)) (.cons (.str _) (.cons d_2 .nil))
  replace otw := otw.same s3
  refine ⟨by show 1 ≤ sizeLine; decide, fun a4 n4 => ?_⟩
  have s4 := sameNew (o := .lst [(.ref a3)]) n4
  have h4 : upd H3 a4 (.lst [(.ref a3)]) a4 = some (.lst [(.ref a3)]) := upd_same
  generalize upd H3 a4 (.lst [(.ref a3)]) = H4 at s4 h4 ⊢
  replace d_3 := dp_same s4 _ _ d_3
  replace sB := sB.trans s4
  have d_4 : Dp K H4 (.ref a4) (.list [(.tuple [(.str (S [97])), (.tuple [(.int 0), (.int 1)])])]) := .lst (.inl (.inl h4)) (.cons d_3 .nil)
  replace otw := otw.same s4
  refine ⟨by show 4 ≤ sizeLine; decide, fun a5 n5 => ?_⟩
  have s5 := sameNew (o := .lst [.non, (.str (S [97, 98])), (.int 3), (.ref a4)]) n5
  have hB : upd H4 a5 (.lst [.non, (.str (S [97, 98])), (.int 3), (.ref a4)]) a5 = some (.lst [.non, (.str (S [97, 98])), (.int 3), (.ref a4)]) := upd_same
  generalize upd H4 a5 (.lst [.non, (.str (S [97, 98])), (.int 3), (.ref a4)]) = H5 at s5 hB ⊢
  replace d_4 := dp_same s5 _ _ d_4
  replace sB := sB.trans s5
  have da : DpAll K H5 [.non, (.str (S [97, 98])), (.int 3), (.ref a4)] [.none, (.str (S [97, 98])), (.int 3), (.list [(.tuple [(.str (S [97])), (.tuple [(.int 0), (.int 1)])])])] := (.cons .non (.cons (.str _) (.cons (.int _) (.cons d_4 .nil))))
  replace otw := otw.same s5
  have aP : ([.none, (.str (S [97, 98])), (.int 3), (.list [(.tuple [(.str (S [97])), (.tuple [(.int 0), (.int 1)])])])] : List PyData).all (fun d => SeqAt.shaped (ans true false false d)) = true := by decide +kernel
  refine ⟨a5, rfl, ⟨_, .inl (.inl hB)⟩, for_list (K := K) (a := a5) (xs := [.non, (.str (S [97, 98])), (.int 3), (.ref a4)]) (fun i σ H' => Same H5 H' ∧ ∃ y7, σ = [v0, v1, v2, v3, v4, v5, some (.ref tw), y7, v8, v9]) ⟨Same.refl _, v7, rfl⟩ (fun i σ H' _ p => .inl (.inl (p.1 _ _ hB))) (fun i y σ H' hi p => ?_) (fun σ H' p => ?_)⟩
  · obtain ⟨sL, y7, rfl⟩ := p
    obtain ⟨dy, hdy, d_y⟩ := dpAll_get da hi
    have p2 := List.all_eq_true.mp aP dy (List.mem_of_getElem? hdy)
    replace d_y := dp_same sL _ _ d_y
    rw [gname_eq]
    refine ⟨_, rfl, y, .non, rfl, .inl ⟨dy, d_y, fun L L1 H1 s1 h1 h2 => ?_⟩⟩
    refine ⟨by show 3 ≤ sizeLine; decide, fun A1 nA1 => ?_⟩
    have s2 := sameNew (o := .lst [.bl true, .bl false, .bl false]) nA1
    have hA1 : upd H1 A1 (.lst [.bl true, .bl false, .bl false]) A1 = some (.lst [.bl true, .bl false, .bl false]) := upd_same
    generalize upd H1 A1 (.lst [.bl true, .bl false, .bl false]) = H2 at s2 hA1 ⊢
    refine ⟨_, rfl, by show 2 ≤ sizeLine; decide, fun A2 nA2 => ?_⟩
    have s3 := sameNew (o := .lst [.ref A1, y]) nA2
    have s23 := s2.trans s3
    have d1 := dp_ans (K := K) (s23 _ _ h2) (s23 _ _ h1) (dp_same (s1.trans s23) _ _ d_y)
    have d2 := dp_ans (K := K) (upd_same (H := H2) (a := A2) (o := .lst [.ref A1, y])) (s3 _ _ hA1) (dp_same (s1.trans s23) _ _ d_y)
    refine ⟨_, _, d1, d2, p2, p2, false, ?_, iteF ⟨sL.trans (s1.trans s23), _, rfl⟩⟩
    rw [SeqAt.eqv_refl _ (SeqAt.canLay_of_shaped p2)]
    rfl
  · obtain ⟨sL, y7, rfl⟩ := p
    clear da hB aP
    replace otw := otw.same sL
    have sB : Same H' H' := Same.refl _
    refine ⟨by show 4 ≤ sizeLine; decide, fun f3 n_f3 => ?_⟩
    have s_f3 := sameNew (o := .tup [.int 1, .int 0, .int 0, .int 0]) n_f3
    have h_f3 : upd H' f3 (.tup [.int 1, .int 0, .int 0, .int 0]) f3 = some (.tup [.int 1, .int 0, .int 0, .int 0]) := upd_same
    generalize upd H' f3 (.tup [.int 1, .int 0, .int 0, .int 0]) = H_f3 at s_f3 h_f3 ⊢
    replace otw := otw.same s_f3
    replace sB := sB.trans s_f3
    refine ⟨by show 2 ≤ sizeLine; decide, fun p3 n_p3 => ?_⟩
    have s_p3 := sameNew (o := .tup [.str (S [97]), .ref f3]) n_p3
    have h_p3 : upd H_f3 p3 (.tup [.str (S [97]), .ref f3]) p3 = some (.tup [.str (S [97]), .ref f3]) := upd_same
    generalize upd H_f3 p3 (.tup [.str (S [97]), .ref f3]) = H_p3 at s_p3 h_p3 ⊢
    replace h_f3 := s_p3 _ _ h_f3
    replace otw := otw.same s_p3
    replace sB := sB.trans s_p3
    refine ⟨by show 4 ≤ sizeLine; decide, fun f4 n_f4 => ?_⟩
    have s_f4 := sameNew (o := .tup [.int 0, .int 1, .int 0, .int 0]) n_f4
    have h_f4 : upd H_p3 f4 (.tup [.int 0, .int 1, .int 0, .int 0]) f4 = some (.tup [.int 0, .int 1, .int 0, .int 0]) := upd_same
    generalize upd H_p3 f4 (.tup [.int 0, .int 1, .int 0, .int 0]) = H_f4 at s_f4 h_f4 ⊢
    replace h_f3 := s_f4 _ _ h_f3
    replace h_p3 := s_f4 _ _ h_p3
    replace otw := otw.same s_f4
    replace sB := sB.trans s_f4
    refine ⟨by show 2 ≤ sizeLine; decide, fun p4 n_p4 => ?_⟩
    have s_p4 := sameNew (o := .tup [.str (S [98]), .ref f4]) n_p4
    have h_p4 : upd H_f4 p4 (.tup [.str (S [98]), .ref f4]) p4 = some (.tup [.str (S [98]), .ref f4]) := upd_same
    generalize upd H_f4 p4 (.tup [.str (S [98]), .ref f4]) = H_p4 at s_p4 h_p4 ⊢
    replace h_f3 := s_p4 _ _ h_f3
    replace h_p3 := s_p4 _ _ h_p3
    replace h_f4 := s_p4 _ _ h_f4
    replace otw := otw.same s_p4
    replace sB := sB.trans s_p4
    refine ⟨by show 4 ≤ sizeLine; decide, fun f5 n_f5 => ?_⟩
    have s_f5 := sameNew (o := .tup [.int 1, .int 0, .int 0, .int 0]) n_f5
    have h_f5 : upd H_p4 f5 (.tup [.int 1, .int 0, .int 0, .int 0]) f5 = some (.tup [.int 1, .int 0, .int 0, .int 0]) := upd_same
    generalize upd H_p4 f5 (.tup [.int 1, .int 0, .int 0, .int 0]) = H_f5 at s_f5 h_f5 ⊢
    replace h_f3 := s_f5 _ _ h_f3
    replace h_p3 := s_f5 _ _ h_p3
    replace h_f4 := s_f5 _ _ h_f4
    replace h_p4 := s_f5 _ _ h_p4
    replace otw := otw.same s_f5
    replace sB := sB.trans s_f5
    refine ⟨by show 2 ≤ sizeLine; decide, fun p5 n_p5 => ?_⟩
    have s_p5 := sameNew (o := .tup [.str (S [97]), .ref f5]) n_p5
    have h_p5 : upd H_f5 p5 (.tup [.str (S [97]), .ref f5]) p5 = some (.tup [.str (S [97]), .ref f5]) := upd_same
    generalize upd H_f5 p5 (.tup [.str (S [97]), .ref f5]) = H_p5 at s_p5 h_p5 ⊢
    replace h_f3 := s_p5 _ _ h_f3
    replace h_p3 := s_p5 _ _ h_p3
    replace h_f4 := s_p5 _ _ h_f4
    replace h_p4 := s_p5 _ _ h_p4
    replace h_f5 := s_p5 _ _ h_f5
    replace otw := otw.same s_p5
    replace sB := sB.trans s_p5
    refine ⟨by show 4 ≤ sizeLine; decide, fun f6 n_f6 => ?_⟩
    have s_f6 := sameNew (o := .tup [.int 0, .int 0, .int 1, .int 0]) n_f6
    have h_f6 : upd H_p5 f6 (.tup [.int 0, .int 0, .int 1, .int 0]) f6 = some (.tup [.int 0, .int 0, .int 1, .int 0]) := upd_same
    generalize upd H_p5 f6 (.tup [.int 0, .int 0, .int 1, .int 0]) = H_f6 at s_f6 h_f6 ⊢
    replace h_f3 := s_f6 _ _ h_f3
    replace h_p3 := s_f6 _ _ h_p3
    replace h_f4 := s_f6 _ _ h_f4
    replace h_p4 := s_f6 _ _ h_p4
    replace h_f5 := s_f6 _ _ h_f5
    replace h_p5 := s_f6 _ _ h_p5
    replace otw := otw.same s_f6
    replace sB := sB.trans s_f6
    refine ⟨by show 2 ≤ sizeLine; decide, fun p6 n_p6 => ?_⟩
    have s_p6 := sameNew (o := .tup [.str (S [98]), .ref f6]) n_p6
    have h_p6 : upd H_f6 p6 (.tup [.str (S [98]), .ref f6]) p6 = some (.tup [.str (S [98]), .ref f6]) := upd_same
    generalize upd H_f6 p6 (.tup [.str (S [98]), .ref f6]) = H_p6 at s_p6 h_p6 ⊢
    replace h_f3 := s_p6 _ _ h_f3
    replace h_p3 := s_p6 _ _ h_p3
    replace h_f4 := s_p6 _ _ h_f4
    replace h_p4 := s_p6 _ _ h_p4
    replace h_f5 := s_p6 _ _ h_f5
    replace h_p5 := s_p6 _ _ h_p5
    replace h_f6 := s_p6 _ _ h_f6
    replace otw := otw.same s_p6
    replace sB := sB.trans s_p6
    refine ⟨by show 4 ≤ sizeLine; decide, fun f7 n_f7 => ?_⟩
    have s_f7 := sameNew (o := .tup [.int 1, .int 0, .int 0, .int 0]) n_f7
    have h_f7 : upd H_p6 f7 (.tup [.int 1, .int 0, .int 0, .int 0]) f7 = some (.tup [.int 1, .int 0, .int 0, .int 0]) := upd_same
    generalize upd H_p6 f7 (.tup [.int 1, .int 0, .int 0, .int 0]) = H_f7 at s_f7 h_f7 ⊢
    replace h_f3 := s_f7 _ _ h_f3
    replace h_p3 := s_f7 _ _ h_p3
    replace h_f4 := s_f7 _ _ h_f4
    replace h_p4 := s_f7 _ _ h_p4
    replace h_f5 := s_f7 _ _ h_f5
    replace h_p5 := s_f7 _ _ h_p5
    replace h_f6 := s_f7 _ _ h_f6
    replace h_p6 := s_f7 _ _ h_p6
    replace otw := otw.same s_f7
    replace sB := sB.trans s_f7
    refine ⟨by show 2 ≤ sizeLine; decide, fun p7 n_p7 => ?_⟩
    have s_p7 := sameNew (o := .tup [.str (S [97]), .ref f7]) n_p7
    have h_p7 : upd H_f7 p7 (.tup [.str (S [97]), .ref f7]) p7 = some (.tup [.str (S [97]), .ref f7]) := upd_same
    generalize upd H_f7 p7 (.tup [.str (S [97]), .ref f7]) = H_p7 at s_p7 h_p7 ⊢
    replace h_f3 := s_p7 _ _ h_f3
    replace h_p3 := s_p7 _ _ h_p3
    replace h_f4 := s_p7 _ _ h_f4
    replace h_p4 := s_p7 _ _ h_p4
    replace h_f5 := s_p7 _ _ h_f5
    replace h_p5 := s_p7 _ _ h_p5
    replace h_f6 := s_p7 _ _ h_f6
    replace h_p6 := s_p7 _ _ h_p6
    replace h_f7 := s_p7 _ _ h_f7
    replace otw := otw.same s_p7
    replace sB := sB.trans s_p7
    refine ⟨by show 5 ≤ sizeLine; decide, fun C1 n_C1 => ?_⟩
    have s_C1 := sameNew (o := .lst [.ref p3, .ref p4, .ref p5, .ref p6, .ref p7]) n_C1
    have h_C1 : upd H_p7 C1 (.lst [.ref p3, .ref p4, .ref p5, .ref p6, .ref p7]) C1 = some (.lst [.ref p3, .ref p4, .ref p5, .ref p6, .ref p7]) := upd_same
    generalize upd H_p7 C1 (.lst [.ref p3, .ref p4, .ref p5, .ref p6, .ref p7]) = H_C1 at s_C1 h_C1 ⊢
    replace h_f3 := s_C1 _ _ h_f3
    replace h_p3 := s_C1 _ _ h_p3
    replace h_f4 := s_C1 _ _ h_f4
    replace h_p4 := s_C1 _ _ h_p4
    replace h_f5 := s_C1 _ _ h_f5
    replace h_p5 := s_C1 _ _ h_p5
    replace h_f6 := s_C1 _ _ h_f6
    replace h_p6 := s_C1 _ _ h_p6
    replace h_f7 := s_C1 _ _ h_f7
    replace h_p7 := s_C1 _ _ h_p7
    replace otw := otw.same s_C1
    replace sB := sB.trans s_C1
    dsimp only
    rw [gname_eq]
    refine ⟨_, rfl, ?_⟩
    refine ⟨by show 4 ≤ sizeLine; decide, fun f8 n_f8 => ?_⟩
    have s_f8 := sameNew (o := .tup [.int 0, .int 0, .int 0, .int 1]) n_f8
    have h_f8 : upd H_C1 f8 (.tup [.int 0, .int 0, .int 0, .int 1]) f8 = some (.tup [.int 0, .int 0, .int 0, .int 1]) := upd_same
    generalize upd H_C1 f8 (.tup [.int 0, .int 0, .int 0, .int 1]) = H_f8 at s_f8 h_f8 ⊢
    replace h_f3 := s_f8 _ _ h_f3
    replace h_p3 := s_f8 _ _ h_p3
    replace h_f4 := s_f8 _ _ h_f4
    replace h_p4 := s_f8 _ _ h_p4
    replace h_f5 := s_f8 _ _ h_f5
    replace h_p5 := s_f8 _ _ h_p5
    replace h_f6 := s_f8 _ _ h_f6
    replace h_p6 := s_f8 _ _ h_p6
    replace h_f7 := s_f8 _ _ h_f7
    replace h_p7 := s_f8 _ _ h_p7
    replace h_C1 := s_f8 _ _ h_C1
    replace otw := otw.same s_f8
    replace sB := sB.trans s_f8
    refine ⟨by show 2 ≤ sizeLine; decide, fun p8 n_p8 => ?_⟩
    have s_p8 := sameNew (o := .tup [.str (S [98]), .ref f8]) n_p8
    have h_p8 : upd H_f8 p8 (.tup [.str (S [98]), .ref f8]) p8 = some (.tup [.str (S [98]), .ref f8]) := upd_same
    generalize upd H_f8 p8 (.tup [.str (S [98]), .ref f8]) = H_p8 at s_p8 h_p8 ⊢
    replace h_f3 := s_p8 _ _ h_f3
    replace h_p3 := s_p8 _ _ h_p3
    replace h_f4 := s_p8 _ _ h_f4
    replace h_p4 := s_p8 _ _ h_p4
    replace h_f5 := s_p8 _ _ h_f5
    replace h_p5 := s_p8 _ _ h_p5
    replace h_f6 := s_p8 _ _ h_f6
    replace h_p6 := s_p8 _ _ h_p6
    replace h_f7 := s_p8 _ _ h_f7
    replace h_p7 := s_p8 _ _ h_p7
    replace h_C1 := s_p8 _ _ h_C1
    replace h_f8 := s_p8 _ _ h_f8
    replace otw := otw.same s_p8
    replace sB := sB.trans s_p8
    refine ⟨by show 4 ≤ sizeLine; decide, fun f9 n_f9 => ?_⟩
    have s_f9 := sameNew (o := .tup [.int 1, .int 0, .int 0, .int 0]) n_f9
    have h_f9 : upd H_p8 f9 (.tup [.int 1, .int 0, .int 0, .int 0]) f9 = some (.tup [.int 1, .int 0, .int 0, .int 0]) := upd_same
    generalize upd H_p8 f9 (.tup [.int 1, .int 0, .int 0, .int 0]) = H_f9 at s_f9 h_f9 ⊢
    replace h_f3 := s_f9 _ _ h_f3
    replace h_p3 := s_f9 _ _ h_p3
    replace h_f4 := s_f9 _ _ h_f4
    replace h_p4 := s_f9 _ _ h_p4
    replace h_f5 := s_f9 _ _ h_f5
    replace h_p5 := s_f9 _ _ h_p5
    replace h_f6 := s_f9 _ _ h_f6
    replace h_p6 := s_f9 _ _ h_p6
    replace h_f7 := s_f9 _ _ h_f7
    replace h_p7 := s_f9 _ _ h_p7
    replace h_C1 := s_f9 _ _ h_C1
    replace h_f8 := s_f9 _ _ h_f8
    replace h_p8 := s_f9 _ _ h_p8
    replace otw := otw.same s_f9
    replace sB := sB.trans s_f9
    refine ⟨by show 2 ≤ sizeLine; decide, fun p9 n_p9 => ?_⟩
    have s_p9 := sameNew (o := .tup [.str (S [97]), .ref f9]) n_p9
    have h_p9 : upd H_f9 p9 (.tup [.str (S [97]), .ref f9]) p9 = some (.tup [.str (S [97]), .ref f9]) := upd_same
    generalize upd H_f9 p9 (.tup [.str (S [97]), .ref f9]) = H_p9 at s_p9 h_p9 ⊢
    replace h_f3 := s_p9 _ _ h_f3
    replace h_p3 := s_p9 _ _ h_p3
    replace h_f4 := s_p9 _ _ h_f4
    replace h_p4 := s_p9 _ _ h_p4
    replace h_f5 := s_p9 _ _ h_f5
    replace h_p5 := s_p9 _ _ h_p5
    replace h_f6 := s_p9 _ _ h_f6
    replace h_p6 := s_p9 _ _ h_p6
    replace h_f7 := s_p9 _ _ h_f7
    replace h_p7 := s_p9 _ _ h_p7
    replace h_C1 := s_p9 _ _ h_C1
    replace h_f8 := s_p9 _ _ h_f8
    replace h_p8 := s_p9 _ _ h_p8
    replace h_f9 := s_p9 _ _ h_f9
    replace otw := otw.same s_p9
    replace sB := sB.trans s_p9
    refine ⟨by show 2 ≤ sizeLine; decide, fun C2 n_C2 => ?_⟩
    have s_C2 := sameNew (o := .lst [.ref p8, .ref p9]) n_C2
    have h_C2 : upd H_p9 C2 (.lst [.ref p8, .ref p9]) C2 = some (.lst [.ref p8, .ref p9]) := upd_same
    generalize upd H_p9 C2 (.lst [.ref p8, .ref p9]) = H_C2 at s_C2 h_C2 ⊢
    replace h_f3 := s_C2 _ _ h_f3
    replace h_p3 := s_C2 _ _ h_p3
    replace h_f4 := s_C2 _ _ h_f4
    replace h_p4 := s_C2 _ _ h_p4
    replace h_f5 := s_C2 _ _ h_f5
    replace h_p5 := s_C2 _ _ h_p5
    replace h_f6 := s_C2 _ _ h_f6
    replace h_p6 := s_C2 _ _ h_p6
    replace h_f7 := s_C2 _ _ h_f7
    replace h_p7 := s_C2 _ _ h_p7
    replace h_C1 := s_C2 _ _ h_C1
    replace h_f8 := s_C2 _ _ h_f8
    replace h_p8 := s_C2 _ _ h_p8
    replace h_f9 := s_C2 _ _ h_f9
    replace h_p9 := s_C2 _ _ h_p9
    replace otw := otw.same s_C2
    replace sB := sB.trans s_C2
    refine ⟨C1, C2, _, _, rfl, rfl, h_C1, h_C2, by show 7 ≤ sizeLine; decide, fun C3 n_C3 => ?_⟩
    have s_C3 := sameNew (o := .lst [.ref p3, .ref p4, .ref p5, .ref p6, .ref p7, .ref p8, .ref p9]) n_C3
    have h_C3 : upd H_C2 C3 (.lst [.ref p3, .ref p4, .ref p5, .ref p6, .ref p7, .ref p8, .ref p9]) C3 = some (.lst [.ref p3, .ref p4, .ref p5, .ref p6, .ref p7, .ref p8, .ref p9]) := upd_same
    dsimp only [List.cons_append, List.nil_append]
    generalize upd H_C2 C3 (.lst [.ref p3, .ref p4, .ref p5, .ref p6, .ref p7, .ref p8, .ref p9]) = H_C3 at s_C3 h_C3 ⊢
    replace h_f3 := s_C3 _ _ h_f3
    replace h_p3 := s_C3 _ _ h_p3
    replace h_f4 := s_C3 _ _ h_f4
    replace h_p4 := s_C3 _ _ h_p4
    replace h_f5 := s_C3 _ _ h_f5
    replace h_p5 := s_C3 _ _ h_p5
    replace h_f6 := s_C3 _ _ h_f6
    replace h_p6 := s_C3 _ _ h_p6
    replace h_f7 := s_C3 _ _ h_f7
    replace h_p7 := s_C3 _ _ h_p7
    replace h_C1 := s_C3 _ _ h_C1
    replace h_f8 := s_C3 _ _ h_f8
    replace h_p8 := s_C3 _ _ h_p8
    replace h_f9 := s_C3 _ _ h_f9
    replace h_p9 := s_C3 _ _ h_p9
    replace h_C2 := s_C3 _ _ h_C2
    replace otw := otw.same s_C3
    replace sB := sB.trans s_C3
    have g10 : GL H_C3 3 C3 ([([97], [1, 0, 0, 0]), ([98], [0, 1, 0, 0]), ([97], [1, 0, 0, 0]), ([98], [0, 0, 1, 0]), ([97], [1, 0, 0, 0]), ([98], [0, 0, 0, 1]), ([97], [1, 0, 0, 0])] : List Pn) := ⟨⟨_, h_C3, (.cons ⟨f3, h_p3, h_f3⟩ (.cons ⟨f4, h_p4, h_f4⟩ (.cons ⟨f5, h_p5, h_f5⟩ (.cons ⟨f6, h_p6, h_f6⟩ (.cons ⟨f7, h_p7, h_f7⟩ (.cons ⟨f8, h_p8, h_f8⟩ (.cons ⟨f9, h_p9, h_f9⟩ .nil)))))))⟩, by unfold LenF; decide +kernel, by unfold Ws; decide +kernel, by unfold LowP Low; decide +kernel, bf_small (by decide +kernel), by decide +kernel⟩
    refine fun x10 dx10 nx10 ndx10 ne10 => mk_ot (by decide) g10 (by decide +kernel) (by unfold Wl; decide +kernel) nx10 ndx10 ne10 fun J10 j10 ot5 => ?_
    have tx_ot5 : Tx 3 (normL ([([97], [1, 0, 0, 0]), ([98], [0, 1, 0, 0]), ([97], [1, 0, 0, 0]), ([98], [0, 0, 1, 0]), ([97], [1, 0, 0, 0]), ([98], [0, 0, 0, 1]), ([97], [1, 0, 0, 0])] : List Pn)) := tx_norm g10.len (by decide +kernel)
    clear g10
    replace h_f3 := j10 _ _ h_f3
    replace h_p3 := j10 _ _ h_p3
    replace h_f4 := j10 _ _ h_f4
    replace h_p4 := j10 _ _ h_p4
    replace h_f5 := j10 _ _ h_f5
    replace h_p5 := j10 _ _ h_p5
    replace h_f6 := j10 _ _ h_f6
    replace h_p6 := j10 _ _ h_p6
    replace h_f7 := j10 _ _ h_f7
    replace h_p7 := j10 _ _ h_p7
    replace h_C1 := j10 _ _ h_C1
    replace h_f8 := j10 _ _ h_f8
    replace h_p8 := j10 _ _ h_p8
    replace h_f9 := j10 _ _ h_f9
    replace h_p9 := j10 _ _ h_p9
    replace h_C2 := j10 _ _ h_C2
    replace h_C3 := j10 _ _ h_C3
    replace otw := otw.same j10
    replace sB := sB.trans j10
    clear h_p3 h_p4 h_p5 h_p6 h_p7 h_p8 h_p9 h_f3 h_f4 h_f5 h_f6 h_f7 h_f8 h_f9 h_C1 h_C2 h_C3
    refine ⟨.ref x10, .int 2, rfl, .inr (.inr (.inr ⟨x10, 3, _, 2, rfl, rfl, ot5, tx_ot5, by decide, by decide, by decide, by decide, fun l11 m11 r11 R11 as11 bs11 q11 i11 k11 w11 v11 e11 a11 b11 t11 u11 y11 z11 => ?_⟩))⟩
    obtain ⟨c11, d11⟩ := told_two (zs := ([[97, 97], [97, 98], [98, 97], [98, 98]] : List (List Nat))) (ys := ([] : List (List Nat))) (by unfold LenF; decide +kernel) (by decide) (by decide +kernel) (by decide +kernel) t11 u11
    subst c11 d11
    have dt11 := dp_pair (K := K) e11 a11 b11
    clear e11 a11 b11 t11 u11 y11 z11 i11 k11 w11 v11
    replace otw := otw.same q11
    replace ot5 := ot5.same q11
    replace sB := sB.trans q11
    refine ⟨by show 4 ≤ sizeLine; decide, fun a6 n6 => ?_⟩
    have s6 := sameNew (o := .lst [(.str (S [97, 97])), (.str (S [97, 98])), (.str (S [98, 97])), (.str (S [98, 98]))]) n6
    have h6 : upd R11 a6 (.lst [(.str (S [97, 97])), (.str (S [97, 98])), (.str (S [98, 97])), (.str (S [98, 98]))]) a6 = some (.lst [(.str (S [97, 97])), (.str (S [97, 98])), (.str (S [98, 97])), (.str (S [98, 98]))]) := upd_same
    generalize upd R11 a6 (.lst [(.str (S [97, 97])), (.str (S [97, 98])), (.str (S [98, 97])), (.str (S [98, 98]))]) = H6 at s6 h6 ⊢
    replace dt11 := dp_same s6 _ _ dt11
    replace sB := sB.trans s6
    have d_6 : Dp K H6 (.ref a6) (.list [(.str (S [97, 97])), (.str (S [97, 98])), (.str (S [98, 97])), (.str (S [98, 98]))]) := .lst (.inl (.inl h6)) (.cons (.str _) (.cons (.str _) (.cons (.str _) (.cons (.str _) .nil))))
    replace otw := otw.same s6
    replace ot5 := ot5.same s6
    refine ⟨by show 0 ≤ sizeLine; decide, fun a7 n7 => ?_⟩
    have s7 := sameNew (o := .lst []) n7
    have h7 : upd H6 a7 (.lst []) a7 = some (.lst []) := upd_same
    generalize upd H6 a7 (.lst []) = H7 at s7 h7 ⊢
    replace dt11 := dp_same s7 _ _ dt11
    replace d_6 := dp_same s7 _ _ d_6
    replace sB := sB.trans s7
    have d_7 : Dp K H7 (.ref a7) (.list []) := .lst (.inl (.inl h7)) .nil
    replace otw := otw.same s7
    replace ot5 := ot5.same s7
    refine ⟨by show 2 ≤ sizeLine; decide, fun a8 n8 => ?_⟩
    have s8 := sameNew (o := .tup [(.ref a6), (.ref a7)]) n8
    have h8 : upd H7 a8 (.tup [(.ref a6), (.ref a7)]) a8 = some (.tup [(.ref a6), (.ref a7)]) := upd_same
    generalize upd H7 a8 (.tup [(.ref a6), (.ref a7)]) = H8 at s8 h8 ⊢
    replace dt11 := dp_same s8 _ _ dt11
    replace d_6 := dp_same s8 _ _ d_6
    replace d_7 := dp_same s8 _ _ d_7
    replace sB := sB.trans s8
    have d_8 : Dp K H8 (.ref a8) (.tuple [(.list [(.str (S [97, 97])), (.str (S [97, 98])), (.str (S [98, 97])), (.str (S [98, 98]))]), (.list [])]) := .tup (.inl (.inl h8)) (.cons d_6 (.cons d_7 .nil))
    replace otw := otw.same s8
    replace ot5 := ot5.same s8
    refine ⟨_, _, dt11, d_8, by decide +kernel, by decide +kernel, false, by (rw [show PyData.eqv (.tuple [dwL ([[97, 97], [97, 98], [98, 97], [98, 98]] : List (List Nat)), dwL ([] : List (List Nat))]) (.tuple [(.list [(.str (S [97, 97])), (.str (S [97, 98])), (.str (S [98, 97])), (.str (S [98, 98]))]), (.list [])]) = true by decide +kernel]; rfl), iteF ?_⟩
    clear dt11 d_8
    exact tail Dn _ tw _ _ _ _ _ _ none _ _ _ otw q
end
end K59

set_option Elab.async false
set_option linter.all false
set_option maxRecDepth 100000
set_option maxHeartbeats 8000000
set_option exponentiation.threshold 3000
namespace K59
open K59 PySem PySem.Spec PyProof.Rows L2 CK SX NM
open K59W (gname_eq tnext_eq isWi)
theorem str_c : Str.ofString "c" = S [99] := by decide +kernel
theorem str_bc : Str.ofString "bc" = S [98, 99] := by decide +kernel
theorem str_cb : Str.ofString "cb" = S [99, 98] := by decide +kernel
theorem str_aba : Str.ofString "aba" = S [97, 98, 97] := by decide +kernel
theorem str_bab : Str.ofString "bab" = S [98, 97, 98] := by decide +kernel
section
variable {P : Program} {w : World} {K : PySem.W.Frag} {mg : Str → Option Value} {base : Heap} {C E_InvalidText E_InvalidNumber E_TooMany E_CountError : Addr}
theorem law_1 (T : Txt K mg C E_InvalidText E_InvalidNumber E_TooMany E_CountError) (f0 : Addr) (cdv : Value) (A : Around) (outer : List Env) (s0 : Shared) (H0 : Hp) (E : XK) (hr : Room 9 (A.deeper (envOfC "law" (C8.fnScope (topS 70)) s0.heap.objs.size f0 cdv))) (gd : A.guards = some []) :
    ∃ u, PSs (cxOf C8.CX0 P w K mg base ["_law_script", "_law_index", "_law_generator_here", "_law_many", "_law_pieces_here", "_law_text", "_law_two", "_law_bad", "_law_chain", "_law_three"] "law" (C8.fnScope (topS 70)) f0 cdv A outer s0 H0 E).nox ((C8.fnBody (topS 70)).drop 1) u ∧
      ∀ (Dn : Ends) (H : Hp) (v0 v1 v2 v3 v4 v5 v6 v7 v8 v9 : Option V), (∀ H', Dn.rt (.bl true) H') → u Dn [v0, v1, v2, v3, v4, v5, v6, v7, v8, v9] H := by
  obtain ⟨u, hu, tail⟩ := law_4 (P := P) (w := w) (base := base) T f0 cdv A outer s0 H0 E hr gd
  refine ⟨_, (pss_cons (ps_par (i := 5) (j := 6) (by rfl) sc_law.nd rfl rfl (by decide) rfl rfl (pa_cons (C8.pe_mk (n_OpenText T) hr (by decide) (by rfl) (pa_cons pe_int (pa_cons (pe_lst (pa_cons (pe_tup (pa_cons pe_str (pa_cons (pe_tup (pa_cons pe_int (pa_cons pe_int pa_nil))) pa_nil))) (pa_cons (pe_tup (pa_cons pe_str (pa_cons (pe_tup (pa_cons pe_int (pa_cons pe_int pa_nil))) pa_nil))) (pa_cons (pe_tup (pa_cons pe_str (pa_cons (pe_tup (pa_cons pe_int (pa_cons pe_int pa_nil))) pa_nil))) pa_nil)))) pa_nil))) (pa_cons (C8.pe_mk (n_OpenText T) hr (by decide) (by rfl) (pa_cons pe_int (pa_cons (pe_lst (pa_cons (pe_tup (pa_cons pe_str (pa_cons (pe_tup (pa_cons pe_int (pa_cons pe_int (pa_cons pe_int pa_nil)))) pa_nil))) (pa_cons (pe_tup (pa_cons pe_str (pa_cons (pe_tup (pa_cons pe_int (pa_cons pe_int (pa_cons pe_int pa_nil)))) pa_nil))) pa_nil))) pa_nil))) pa_nil)) (by rfl))
    (pss_cons (ps_if (PW.pt (pw_or (pt_cmpR (op_neD hr.units) (C8.pe_c (c_parts_of T) hr (by decide) (by rfl) (pa_cons (pv 5) (pa_cons pe_int pa_nil))) (pe_tup (pa_cons (pe_lst (pa_cons pe_str (pa_cons pe_str (pa_cons pe_str (pa_cons pe_str (pa_cons pe_str pa_nil)))))) (pa_cons (pe_lst (pa_cons pe_str (pa_cons pe_str pa_nil))) pa_nil))) (nomark _)) (pw_or1 (pt_cmpR (op_neD hr.units) (C8.pe_c (c_parts_of T) hr (by decide) (by rfl) (pa_cons (pv 6) (pa_cons pe_int pa_nil))) (pe_tup (pa_cons (pe_lst (pa_cons pe_str (pa_cons pe_str pa_nil))) (pa_cons (pe_lst pa_nil) pa_nil))) (nomark _)))))
    (pss_one (ps_ret pe_bl))
    pss_nil)
    (pss_cons (ps_if (PW.pt (pw_or (pt_cmpR (op_neD hr.units) (C8.pe_c (c_parts_of T) hr (by decide) (by rfl) (pa_cons (C8.pe_mk (n_OpenText T) hr (by decide) (by rfl) (pa_cons pe_int (pa_cons (pe_lst (pa_cons (pe_tup (pa_cons pe_str (pa_cons (pe_tup (pa_cons pe_int (pa_cons pe_int pa_nil))) pa_nil))) pa_nil)) pa_nil))) (pa_cons pe_int pa_nil))) (pe_tup (pa_cons (pe_lst (pa_cons (pe_op op_repS pe_str pe_int) pa_nil)) (pa_cons (pe_lst pa_nil) pa_nil))) (nomark _)) (pw_or1 (pt_cmpR (op_neD hr.units) (C8.pe_c (c_parts_of T) hr (by decide) (by rfl) (pa_cons (C8.pe_mk (n_OpenText T) hr (by decide) (by rfl) (pa_cons pe_int (pa_cons (pe_lst (pa_cons (pe_tup (pa_cons pe_str (pa_cons (pe_tup (pa_cons pe_int pa_nil)) pa_nil))) pa_nil)) pa_nil))) (pa_cons pe_int pa_nil))) (pe_tup (pa_cons (pe_lst (pa_cons pe_str (pa_cons pe_str pa_nil))) (pa_cons (pe_lst (pa_cons pe_str (pa_cons pe_str pa_nil))) pa_nil))) (nomark _)))))
    (pss_one (ps_ret pe_bl))
    pss_nil)
    hu))), ?_⟩
  intro Dn H v0 v1 v2 v3 v4 v5 v6 v7 v8 v9 q
  have sB : Same H H := Same.refl _
  rw [str_ab, str_c, str_b, str_a, str_ba, str_bb, str_bc, str_cb, str_aba, str_bab]
  refine ⟨by show 2 ≤ sizeLine; decide, fun f12 n_f12 => ?_⟩
  have s_f12 := sameNew (o := .tup [.int 0, .int 1]) n_f12
  have h_f12 : upd H f12 (.tup [.int 0, .int 1]) f12 = some (.tup [.int 0, .int 1]) := upd_same
  generalize upd H f12 (.tup [.int 0, .int 1]) = H_f12 at s_f12 h_f12 ⊢
  replace sB := sB.trans s_f12
  refine ⟨by show 2 ≤ sizeLine; decide, fun p12 n_p12 => ?_⟩
  have s_p12 := sameNew (o := .tup [.str (S [97, 98]), .ref f12]) n_p12
  have h_p12 : upd H_f12 p12 (.tup [.str (S [97, 98]), .ref f12]) p12 = some (.tup [.str (S [97, 98]), .ref f12]) := upd_same
  generalize upd H_f12 p12 (.tup [.str (S [97, 98]), .ref f12]) = H_p12 at s_p12 h_p12 ⊢
  replace h_f12 := s_p12 _ _ h_f12
  replace sB := sB.trans s_p12
  refine ⟨by show 2 ≤ sizeLine; decide, fun f13 n_f13 => ?_⟩
  have s_f13 := sameNew (o := .tup [.int 1, .int 0]) n_f13
  have h_f13 : upd H_p12 f13 (.tup [.int 1, .int 0]) f13 = some (.tup [.int 1, .int 0]) := upd_same
  generalize upd H_p12 f13 (.tup [.int 1, .int 0]) = H_f13 at s_f13 h_f13 ⊢
  replace h_f12 := s_f13 _ _ h_f12
  replace h_p12 := s_f13 _ _ h_p12
  replace sB := sB.trans s_f13
  refine ⟨by show 2 ≤ sizeLine; decide, fun p13 n_p13 => ?_⟩
  have s_p13 := sameNew (o := .tup [.str (S [99]), .ref f13]) n_p13
  have h_p13 : upd H_f13 p13 (.tup [.str (S [99]), .ref f13]) p13 = some (.tup [.str (S [99]), .ref f13]) := upd_same
  generalize upd H_f13 p13 (.tup [.str (S [99]), .ref f13]) = H_p13 at s_p13 h_p13 ⊢
  replace h_f12 := s_p13 _ _ h_f12
  replace h_p12 := s_p13 _ _ h_p12
  replace h_f13 := s_p13 _ _ h_f13
  replace sB := sB.trans s_p13
  refine ⟨by show 2 ≤ sizeLine; decide, fun f14 n_f14 => ?_⟩
  have s_f14 := sameNew (o := .tup [.int 2, .int 1]) n_f14
  have h_f14 : upd H_p13 f14 (.tup [.int 2, .int 1]) f14 = some (.tup [.int 2, .int 1]) := upd_same
  generalize upd H_p13 f14 (.tup [.int 2, .int 1]) = H_f14 at s_f14 h_f14 ⊢
  replace h_f12 := s_f14 _ _ h_f12
  replace h_p12 := s_f14 _ _ h_p12
  replace h_f13 := s_f14 _ _ h_f13
  replace h_p13 := s_f14 _ _ h_p13
  replace sB := sB.trans s_f14
  refine ⟨by show 2 ≤ sizeLine; decide, fun p14 n_p14 => ?_⟩
  have s_p14 := sameNew (o := .tup [.str (S [98]), .ref f14]) n_p14
  have h_p14 : upd H_f14 p14 (.tup [.str (S [98]), .ref f14]) p14 = some (.tup [.str (S [98]), .ref f14]) := upd_same
  generalize upd H_f14 p14 (.tup [.str (S [98]), .ref f14]) = H_p14 at s_p14 h_p14 ⊢
  replace h_f12 := s_p14 _ _ h_f12
  replace h_p12 := s_p14 _ _ h_p12
  replace h_f13 := s_p14 _ _ h_f13
  replace h_p13 := s_p14 _ _ h_p13
  replace h_f14 := s_p14 _ _ h_f14
  replace sB := sB.trans s_p14
  refine ⟨by show 3 ≤ sizeLine; decide, fun La n_La => ?_⟩
  have s_La := sameNew (o := .lst [.ref p12, .ref p13, .ref p14]) n_La
  have h_La : upd H_p14 La (.lst [.ref p12, .ref p13, .ref p14]) La = some (.lst [.ref p12, .ref p13, .ref p14]) := upd_same
  generalize upd H_p14 La (.lst [.ref p12, .ref p13, .ref p14]) = H_La at s_La h_La ⊢
  replace h_f12 := s_La _ _ h_f12
  replace h_p12 := s_La _ _ h_p12
  replace h_f13 := s_La _ _ h_f13
  replace h_p13 := s_La _ _ h_p13
  replace h_f14 := s_La _ _ h_f14
  replace h_p14 := s_La _ _ h_p14
  replace sB := sB.trans s_La
  have g15 : GL H_La 1 La ([([97, 98], [0, 1]), ([99], [1, 0]), ([98], [2, 1])] : List Pn) := ⟨⟨_, h_La, (.cons ⟨f12, h_p12, h_f12⟩ (.cons ⟨f13, h_p13, h_f13⟩ (.cons ⟨f14, h_p14, h_f14⟩ .nil)))⟩, by unfold LenF; decide +kernel, by unfold Ws; decide +kernel, by unfold LowP Low; decide +kernel, bf_small (by decide +kernel), by decide +kernel⟩
  refine fun x15 dx15 nx15 ndx15 ne15 => mk_ot (by decide) g15 (by decide +kernel) (by unfold Wl; decide +kernel) nx15 ndx15 ne15 fun J15 j15 ota => ?_
  have tx_ota : Tx 1 (normL ([([97, 98], [0, 1]), ([99], [1, 0]), ([98], [2, 1])] : List Pn)) := tx_norm g15.len (by decide +kernel)
  clear g15
  replace h_f12 := j15 _ _ h_f12
  replace h_p12 := j15 _ _ h_p12
  replace h_f13 := j15 _ _ h_f13
  replace h_p13 := j15 _ _ h_p13
  replace h_f14 := j15 _ _ h_f14
  replace h_p14 := j15 _ _ h_p14
  replace h_La := j15 _ _ h_La
  replace sB := sB.trans j15
  clear h_p12 h_p13 h_p14 h_f12 h_f13 h_f14 h_La
  refine ⟨by show 3 ≤ sizeLine; decide, fun f16 n_f16 => ?_⟩
  have s_f16 := sameNew (o := .tup [.int 0, .int 1, .int 0]) n_f16
  have h_f16 : upd J15 f16 (.tup [.int 0, .int 1, .int 0]) f16 = some (.tup [.int 0, .int 1, .int 0]) := upd_same
  generalize upd J15 f16 (.tup [.int 0, .int 1, .int 0]) = H_f16 at s_f16 h_f16 ⊢
  replace ota := ota.same s_f16
  replace sB := sB.trans s_f16
  refine ⟨by show 2 ≤ sizeLine; decide, fun p16 n_p16 => ?_⟩
  have s_p16 := sameNew (o := .tup [.str (S [97]), .ref f16]) n_p16
  have h_p16 : upd H_f16 p16 (.tup [.str (S [97]), .ref f16]) p16 = some (.tup [.str (S [97]), .ref f16]) := upd_same
  generalize upd H_f16 p16 (.tup [.str (S [97]), .ref f16]) = H_p16 at s_p16 h_p16 ⊢
  replace h_f16 := s_p16 _ _ h_f16
  replace ota := ota.same s_p16
  replace sB := sB.trans s_p16
  refine ⟨by show 3 ≤ sizeLine; decide, fun f17 n_f17 => ?_⟩
  have s_f17 := sameNew (o := .tup [.int 0, .int 0, .int 1]) n_f17
  have h_f17 : upd H_p16 f17 (.tup [.int 0, .int 0, .int 1]) f17 = some (.tup [.int 0, .int 0, .int 1]) := upd_same
  generalize upd H_p16 f17 (.tup [.int 0, .int 0, .int 1]) = H_f17 at s_f17 h_f17 ⊢
  replace h_f16 := s_f17 _ _ h_f16
  replace h_p16 := s_f17 _ _ h_p16
  replace ota := ota.same s_f17
  replace sB := sB.trans s_f17
  refine ⟨by show 2 ≤ sizeLine; decide, fun p17 n_p17 => ?_⟩
  have s_p17 := sameNew (o := .tup [.str (S [98]), .ref f17]) n_p17
  have h_p17 : upd H_f17 p17 (.tup [.str (S [98]), .ref f17]) p17 = some (.tup [.str (S [98]), .ref f17]) := upd_same
  generalize upd H_f17 p17 (.tup [.str (S [98]), .ref f17]) = H_p17 at s_p17 h_p17 ⊢
  replace h_f16 := s_p17 _ _ h_f16
  replace h_p16 := s_p17 _ _ h_p16
  replace h_f17 := s_p17 _ _ h_f17
  replace ota := ota.same s_p17
  replace sB := sB.trans s_p17
  refine ⟨by show 2 ≤ sizeLine; decide, fun Lb n_Lb => ?_⟩
  have s_Lb := sameNew (o := .lst [.ref p16, .ref p17]) n_Lb
  have h_Lb : upd H_p17 Lb (.lst [.ref p16, .ref p17]) Lb = some (.lst [.ref p16, .ref p17]) := upd_same
  generalize upd H_p17 Lb (.lst [.ref p16, .ref p17]) = H_Lb at s_Lb h_Lb ⊢
  replace h_f16 := s_Lb _ _ h_f16
  replace h_p16 := s_Lb _ _ h_p16
  replace h_f17 := s_Lb _ _ h_f17
  replace h_p17 := s_Lb _ _ h_p17
  replace ota := ota.same s_Lb
  replace sB := sB.trans s_Lb
  have g18 : GL H_Lb 2 Lb ([([97], [0, 1, 0]), ([98], [0, 0, 1])] : List Pn) := ⟨⟨_, h_Lb, (.cons ⟨f16, h_p16, h_f16⟩ (.cons ⟨f17, h_p17, h_f17⟩ .nil))⟩, by unfold LenF; decide +kernel, by unfold Ws; decide +kernel, by unfold LowP Low; decide +kernel, bf_small (by decide +kernel), by decide +kernel⟩
  refine fun x18 dx18 nx18 ndx18 ne18 => mk_ot (by decide) g18 (by decide +kernel) (by unfold Wl; decide +kernel) nx18 ndx18 ne18 fun J18 j18 otw => ?_
  have tx_otw : Tx 2 (normL ([([97], [0, 1, 0]), ([98], [0, 0, 1])] : List Pn)) := tx_norm g18.len (by decide +kernel)
  clear g18
  replace h_f16 := j18 _ _ h_f16
  replace h_p16 := j18 _ _ h_p16
  replace h_f17 := j18 _ _ h_f17
  replace h_p17 := j18 _ _ h_p17
  replace h_Lb := j18 _ _ h_Lb
  replace ota := ota.same j18
  replace sB := sB.trans j18
  clear h_p16 h_p17 h_f16 h_f17 h_Lb
  refine ⟨_, _, rfl, ?_⟩
  refine ⟨_, rfl, .ref x15, .int 2, rfl, .inr (.inr (.inr ⟨x15, 1, _, 2, rfl, rfl, ota, tx_ota, by decide, by decide, by decide, by decide, fun l19 m19 r19 R19 as19 bs19 q19 i19 k19 w19 v19 e19 a19 b19 t19 u19 y19 z19 => ?_⟩))⟩
  obtain ⟨c19, d19⟩ := told_two (zs := ([[97, 98], [98, 97], [98, 98], [98, 99], [99, 98]] : List (List Nat))) (ys := ([[98, 98], [99, 98]] : List (List Nat))) (by unfold LenF; decide +kernel) (by decide) (by decide +kernel) (by decide +kernel) t19 u19
  subst c19 d19
  have dt19 := dp_pair (K := K) e19 a19 b19
  clear e19 a19 b19 t19 u19 y19 z19 i19 k19 w19 v19
  replace ota := ota.same q19
  replace otw := otw.same q19
  replace sB := sB.trans q19
  refine ⟨by show 5 ≤ sizeLine; decide, fun a9 n9 => ?_⟩
  have s9 := sameNew (o := .lst [(.str (S [97, 98])), (.str (S [98, 97])), (.str (S [98, 98])), (.str (S [98, 99])), (.str (S [99, 98]))]) n9
  have h9 : upd R19 a9 (.lst [(.str (S [97, 98])), (.str (S [98, 97])), (.str (S [98, 98])), (.str (S [98, 99])), (.str (S [99, 98]))]) a9 = some (.lst [(.str (S [97, 98])), (.str (S [98, 97])), (.str (S [98, 98])), (.str (S [98, 99])), (.str (S [99, 98]))]) := upd_same
  generalize upd R19 a9 (.lst [(.str (S [97, 98])), (.str (S [98, 97])), (.str (S [98, 98])), (.str (S [98, 99])), (.str (S [99, 98]))]) = H9 at s9 h9 ⊢
  replace dt19 := dp_same s9 _ _ dt19
  replace sB := sB.trans s9
  have d_9 : Dp K H9 (.ref a9) (.list [(.str (S [97, 98])), (.str (S [98, 97])), (.str (S [98, 98])), (.str (S [98, 99])), (.str (S [99, 98]))]) := .lst (.inl (.inl h9)) (.cons (.str _) (.cons (.str _) (.cons (.str _) (.cons (.str _) (.cons (.str _) .nil)))))
  replace ota := ota.same s9
  replace otw := otw.same s9
  refine ⟨by show 2 ≤ sizeLine; decide, fun a10 n10 => ?_⟩
  have s10 := sameNew (o := .lst [(.str (S [98, 98])), (.str (S [99, 98]))]) n10
  have h10 : upd H9 a10 (.lst [(.str (S [98, 98])), (.str (S [99, 98]))]) a10 = some (.lst [(.str (S [98, 98])), (.str (S [99, 98]))]) := upd_same
  generalize upd H9 a10 (.lst [(.str (S [98, 98])), (.str (S [99, 98]))]) = H10 at s10 h10 ⊢
  replace dt19 := dp_same s10 _ _ dt19
  replace d_9 := dp_same s10 _ _ d_9
  replace sB := sB.trans s10
  have d_10 : Dp K H10 (.ref a10) (.list [(.str (S [98, 98])), (.str (S [99, 98]))]) := .lst (.inl (.inl h10)) (.cons (.str _) (.cons (.str _) .nil))
  replace ota := ota.same s10
  replace otw := otw.same s10
  refine ⟨by show 2 ≤ sizeLine; decide, fun a11 n11 => ?_⟩
  have s11 := sameNew (o := .tup [(.ref a9), (.ref a10)]) n11
  have h11 : upd H10 a11 (.tup [(.ref a9), (.ref a10)]) a11 = some (.tup [(.ref a9), (.ref a10)]) := upd_same
  generalize upd H10 a11 (.tup [(.ref a9), (.ref a10)]) = H11 at s11 h11 ⊢
  replace dt19 := dp_same s11 _ _ dt19
  replace d_9 := dp_same s11 _ _ d_9
  replace d_10 := dp_same s11 _ _ d_10
  replace sB := sB.trans s11
  have d_11 : Dp K H11 (.ref a11) (.tuple [(.list [(.str (S [97, 98])), (.str (S [98, 97])), (.str (S [98, 98])), (.str (S [98, 99])), (.str (S [99, 98]))]), (.list [(.str (S [98, 98])), (.str (S [99, 98]))])]) := .tup (.inl (.inl h11)) (.cons d_9 (.cons d_10 .nil))
  replace ota := ota.same s11
  replace otw := otw.same s11
  refine ⟨_, _, dt19, d_11, by decide +kernel, by decide +kernel, false, by (rw [show PyData.eqv (.tuple [dwL ([[97, 98], [98, 97], [98, 98], [98, 99], [99, 98]] : List (List Nat)), dwL ([[98, 98], [99, 98]] : List (List Nat))]) (.tuple [(.list [(.str (S [97, 98])), (.str (S [98, 97])), (.str (S [98, 98])), (.str (S [98, 99])), (.str (S [99, 98]))]), (.list [(.str (S [98, 98])), (.str (S [99, 98]))])]) = true by decide +kernel]; rfl), iteF ?_⟩
  clear dt19 d_11
  refine ⟨_, rfl, .ref x18, .int 1, rfl, .inr (.inr (.inr ⟨x18, 2, _, 1, rfl, rfl, otw, tx_otw, by decide, by decide, by decide, by decide, fun l20 m20 r20 R20 as20 bs20 q20 i20 k20 w20 v20 e20 a20 b20 t20 u20 y20 z20 => ?_⟩))⟩
  obtain ⟨c20, d20⟩ := told_two (zs := ([[97], [98]] : List (List Nat))) (ys := ([] : List (List Nat))) (by unfold LenF; decide +kernel) (by decide) (by decide +kernel) (by decide +kernel) t20 u20
  subst c20 d20
  have dt20 := dp_pair (K := K) e20 a20 b20
  clear e20 a20 b20 t20 u20 y20 z20 i20 k20 w20 v20
  replace ota := ota.same q20
  replace otw := otw.same q20
  replace sB := sB.trans q20
  refine ⟨by show 2 ≤ sizeLine; decide, fun a12 n12 => ?_⟩
  have s12 := sameNew (o := .lst [(.str (S [97])), (.str (S [98]))]) n12
  have h12 : upd R20 a12 (.lst [(.str (S [97])), (.str (S [98]))]) a12 = some (.lst [(.str (S [97])), (.str (S [98]))]) := upd_same
  generalize upd R20 a12 (.lst [(.str (S [97])), (.str (S [98]))]) = H12 at s12 h12 ⊢
  replace dt20 := dp_same s12 _ _ dt20
  replace sB := sB.trans s12
  have d_12 : Dp K H12 (.ref a12) (.list [(.str (S [97])), (.str (S [98]))]) := .lst (.inl (.inl h12)) (.cons (.str _) (.cons (.str _) .nil))
  replace ota := ota.same s12
  replace otw := otw.same s12
  refine ⟨by show 0 ≤ sizeLine; decide, fun a13 n13 => ?_⟩
  have s13 := sameNew (o := .lst []) n13
  have h13 : upd H12 a13 (.lst []) a13 = some (.lst []) := upd_same
  generalize upd H12 a13 (.lst []) = H13 at s13 h13 ⊢
  replace dt20 := dp_same s13 _ _ dt20
  replace d_12 := dp_same s13 _ _ d_12
  replace sB := sB.trans s13
  have d_13 : Dp K H13 (.ref a13) (.list []) := .lst (.inl (.inl h13)) .nil
  replace ota := ota.same s13
  replace otw := otw.same s13
  refine ⟨by show 2 ≤ sizeLine; decide, fun a14 n14 => ?_⟩
  have s14 := sameNew (o := .tup [(.ref a12), (.ref a13)]) n14
  have h14 : upd H13 a14 (.tup [(.ref a12), (.ref a13)]) a14 = some (.tup [(.ref a12), (.ref a13)]) := upd_same
  generalize upd H13 a14 (.tup [(.ref a12), (.ref a13)]) = H14 at s14 h14 ⊢
  replace dt20 := dp_same s14 _ _ dt20
  replace d_12 := dp_same s14 _ _ d_12
  replace d_13 := dp_same s14 _ _ d_13
  replace sB := sB.trans s14
  have d_14 : Dp K H14 (.ref a14) (.tuple [(.list [(.str (S [97])), (.str (S [98]))]), (.list [])]) := .tup (.inl (.inl h14)) (.cons d_12 (.cons d_13 .nil))
  replace ota := ota.same s14
  replace otw := otw.same s14
  refine ⟨_, _, dt20, d_14, by decide +kernel, by decide +kernel, false, by (rw [show PyData.eqv (.tuple [dwL ([[97], [98]] : List (List Nat)), dwL ([] : List (List Nat))]) (.tuple [(.list [(.str (S [97])), (.str (S [98]))]), (.list [])]) = true by decide +kernel]; rfl), iteF ?_⟩
  clear dt20 d_14
  refine ⟨by show 2 ≤ sizeLine; decide, fun f21 n_f21 => ?_⟩
  have s_f21 := sameNew (o := .tup [.int 0, .int 1]) n_f21
  have h_f21 : upd H14 f21 (.tup [.int 0, .int 1]) f21 = some (.tup [.int 0, .int 1]) := upd_same
  generalize upd H14 f21 (.tup [.int 0, .int 1]) = H_f21 at s_f21 h_f21 ⊢
  replace ota := ota.same s_f21
  replace otw := otw.same s_f21
  replace sB := sB.trans s_f21
  refine ⟨by show 2 ≤ sizeLine; decide, fun p21 n_p21 => ?_⟩
  have s_p21 := sameNew (o := .tup [.str (S [97]), .ref f21]) n_p21
  have h_p21 : upd H_f21 p21 (.tup [.str (S [97]), .ref f21]) p21 = some (.tup [.str (S [97]), .ref f21]) := upd_same
  generalize upd H_f21 p21 (.tup [.str (S [97]), .ref f21]) = H_p21 at s_p21 h_p21 ⊢
  replace h_f21 := s_p21 _ _ h_f21
  replace ota := ota.same s_p21
  replace otw := otw.same s_p21
  replace sB := sB.trans s_p21
  refine ⟨by show 1 ≤ sizeLine; decide, fun Lc0 n_Lc0 => ?_⟩
  have s_Lc0 := sameNew (o := .lst [.ref p21]) n_Lc0
  have h_Lc0 : upd H_p21 Lc0 (.lst [.ref p21]) Lc0 = some (.lst [.ref p21]) := upd_same
  generalize upd H_p21 Lc0 (.lst [.ref p21]) = H_Lc0 at s_Lc0 h_Lc0 ⊢
  replace h_f21 := s_Lc0 _ _ h_f21
  replace h_p21 := s_Lc0 _ _ h_p21
  replace ota := ota.same s_Lc0
  replace otw := otw.same s_Lc0
  replace sB := sB.trans s_Lc0
  have g22 : GL H_Lc0 1 Lc0 ([([97], [0, 1])] : List Pn) := ⟨⟨_, h_Lc0, (.cons ⟨f21, h_p21, h_f21⟩ .nil)⟩, by unfold LenF; decide +kernel, by unfold Ws; decide +kernel, by unfold LowP Low; decide +kernel, bf_small (by decide +kernel), by decide +kernel⟩
  refine fun x22 dx22 nx22 ndx22 ne22 => mk_ot (by decide) g22 (by decide +kernel) (by unfold Wl; decide +kernel) nx22 ndx22 ne22 fun J22 j22 otc0 => ?_
  have tx_otc0 : Tx 1 (normL ([([97], [0, 1])] : List Pn)) := tx_norm g22.len (by decide +kernel)
  clear g22
  replace h_f21 := j22 _ _ h_f21
  replace h_p21 := j22 _ _ h_p21
  replace h_Lc0 := j22 _ _ h_Lc0
  replace ota := ota.same j22
  replace otw := otw.same j22
  replace sB := sB.trans j22
  clear h_p21 h_f21 h_Lc0
  refine ⟨.ref x22, .int 40, rfl, .inr (.inr (.inr ⟨x22, 1, _, 40, rfl, rfl, otc0, tx_otc0, by decide, by decide, by decide, by decide, fun l23 m23 r23 R23 as23 bs23 q23 i23 k23 w23 v23 e23 a23 b23 t23 u23 y23 z23 => ?_⟩))⟩
  obtain ⟨c23, d23⟩ := told_two (zs := ([[97, 97, 97, 97, 97, 97, 97, 97, 97, 97, 97, 97, 97, 97, 97, 97, 97, 97, 97, 97, 97, 97, 97, 97, 97, 97, 97, 97, 97, 97, 97, 97, 97, 97, 97, 97, 97, 97, 97, 97]] : List (List Nat))) (ys := ([] : List (List Nat))) (by unfold LenF; decide +kernel) (by decide) (by decide +kernel) (by decide +kernel) t23 u23
  subst c23 d23
  have dt23 := dp_pair (K := K) e23 a23 b23
  clear e23 a23 b23 t23 u23 y23 z23 i23 k23 w23 v23
  replace ota := ota.same q23
  replace otw := otw.same q23
  replace otc0 := otc0.same q23
  replace sB := sB.trans q23
  refine ⟨[97], 40, rfl, rfl, by decide, by decide, ?_⟩
  refine ⟨by show 1 ≤ sizeLine; decide, fun a15 n15 => ?_⟩
  have s15 := sameNew (o := .lst [(.str (S (List.replicate 40 [97]).flatten))]) n15
  have h15 : upd R23 a15 (.lst [(.str (S (List.replicate 40 [97]).flatten))]) a15 = some (.lst [(.str (S (List.replicate 40 [97]).flatten))]) := upd_same
  generalize upd R23 a15 (.lst [(.str (S (List.replicate 40 [97]).flatten))]) = H15 at s15 h15 ⊢
  replace dt23 := dp_same s15 _ _ dt23
  replace sB := sB.trans s15
  have d_15 : Dp K H15 (.ref a15) (.list [(.str (S (List.replicate 40 [97]).flatten))]) := .lst (.inl (.inl h15)) (.cons (.str _) .nil)
  replace ota := ota.same s15
  replace otw := otw.same s15
  replace otc0 := otc0.same s15
  refine ⟨by show 0 ≤ sizeLine; decide, fun a16 n16 => ?_⟩
  have s16 := sameNew (o := .lst []) n16
  have h16 : upd H15 a16 (.lst []) a16 = some (.lst []) := upd_same
  generalize upd H15 a16 (.lst []) = H16 at s16 h16 ⊢
  replace dt23 := dp_same s16 _ _ dt23
  replace d_15 := dp_same s16 _ _ d_15
  replace sB := sB.trans s16
  have d_16 : Dp K H16 (.ref a16) (.list []) := .lst (.inl (.inl h16)) .nil
  replace ota := ota.same s16
  replace otw := otw.same s16
  replace otc0 := otc0.same s16
  refine ⟨by show 2 ≤ sizeLine; decide, fun a17 n17 => ?_⟩
  have s17 := sameNew (o := .tup [(.ref a15), (.ref a16)]) n17
  have h17 : upd H16 a17 (.tup [(.ref a15), (.ref a16)]) a17 = some (.tup [(.ref a15), (.ref a16)]) := upd_same
  generalize upd H16 a17 (.tup [(.ref a15), (.ref a16)]) = H17 at s17 h17 ⊢
  replace dt23 := dp_same s17 _ _ dt23
  replace d_15 := dp_same s17 _ _ d_15
  replace d_16 := dp_same s17 _ _ d_16
  replace sB := sB.trans s17
  have d_17 : Dp K H17 (.ref a17) (.tuple [(.list [(.str (S (List.replicate 40 [97]).flatten))]), (.list [])]) := .tup (.inl (.inl h17)) (.cons d_15 (.cons d_16 .nil))
  replace ota := ota.same s17
  replace otw := otw.same s17
  replace otc0 := otc0.same s17
  refine ⟨_, _, dt23, d_17, by decide +kernel, by decide +kernel, false, by (rw [show PyData.eqv (.tuple [dwL ([[97, 97, 97, 97, 97, 97, 97, 97, 97, 97, 97, 97, 97, 97, 97, 97, 97, 97, 97, 97, 97, 97, 97, 97, 97, 97, 97, 97, 97, 97, 97, 97, 97, 97, 97, 97, 97, 97, 97, 97]] : List (List Nat)), dwL ([] : List (List Nat))]) (.tuple [(.list [(.str (S (List.replicate 40 [97]).flatten))]), (.list [])]) = true by decide +kernel]; rfl), iteF ?_⟩
  clear dt23 d_17
  clear otc0
  refine ⟨by show 1 ≤ sizeLine; decide, fun f24 n_f24 => ?_⟩
  have s_f24 := sameNew (o := .tup [.int 2]) n_f24
  have h_f24 : upd H17 f24 (.tup [.int 2]) f24 = some (.tup [.int 2]) := upd_same
  generalize upd H17 f24 (.tup [.int 2]) = H_f24 at s_f24 h_f24 ⊢
  replace ota := ota.same s_f24
  replace otw := otw.same s_f24
  replace sB := sB.trans s_f24
  refine ⟨by show 2 ≤ sizeLine; decide, fun p24 n_p24 => ?_⟩
  have s_p24 := sameNew (o := .tup [.str (S [97, 98]), .ref f24]) n_p24
  have h_p24 : upd H_f24 p24 (.tup [.str (S [97, 98]), .ref f24]) p24 = some (.tup [.str (S [97, 98]), .ref f24]) := upd_same
  generalize upd H_f24 p24 (.tup [.str (S [97, 98]), .ref f24]) = H_p24 at s_p24 h_p24 ⊢
  replace h_f24 := s_p24 _ _ h_f24
  replace ota := ota.same s_p24
  replace otw := otw.same s_p24
  replace sB := sB.trans s_p24
  refine ⟨by show 1 ≤ sizeLine; decide, fun Lc1 n_Lc1 => ?_⟩
  have s_Lc1 := sameNew (o := .lst [.ref p24]) n_Lc1
  have h_Lc1 : upd H_p24 Lc1 (.lst [.ref p24]) Lc1 = some (.lst [.ref p24]) := upd_same
  generalize upd H_p24 Lc1 (.lst [.ref p24]) = H_Lc1 at s_Lc1 h_Lc1 ⊢
  replace h_f24 := s_Lc1 _ _ h_f24
  replace h_p24 := s_Lc1 _ _ h_p24
  replace ota := ota.same s_Lc1
  replace otw := otw.same s_Lc1
  replace sB := sB.trans s_Lc1
  have g25 : GL H_Lc1 0 Lc1 ([([97, 98], [2])] : List Pn) := ⟨⟨_, h_Lc1, (.cons ⟨f24, h_p24, h_f24⟩ .nil)⟩, by unfold LenF; decide +kernel, by unfold Ws; decide +kernel, by unfold LowP Low; decide +kernel, bf_small (by decide +kernel), by decide +kernel⟩
  refine fun x25 dx25 nx25 ndx25 ne25 => mk_ot (by decide) g25 (by decide +kernel) (by unfold Wl; decide +kernel) nx25 ndx25 ne25 fun J25 j25 otc1 => ?_
  have tx_otc1 : Tx 0 (normL ([([97, 98], [2])] : List Pn)) := tx_norm g25.len (by decide +kernel)
  clear g25
  replace h_f24 := j25 _ _ h_f24
  replace h_p24 := j25 _ _ h_p24
  replace h_Lc1 := j25 _ _ h_Lc1
  replace ota := ota.same j25
  replace otw := otw.same j25
  replace sB := sB.trans j25
  clear h_p24 h_f24 h_Lc1
  refine ⟨.ref x25, .int 3, rfl, .inr (.inr (.inr ⟨x25, 0, _, 3, rfl, rfl, otc1, tx_otc1, by decide, by decide, by decide, by decide, fun l26 m26 r26 R26 as26 bs26 q26 i26 k26 w26 v26 e26 a26 b26 t26 u26 y26 z26 => ?_⟩))⟩
  obtain ⟨c26, d26⟩ := told_two (zs := ([[97, 98, 97], [98, 97, 98]] : List (List Nat))) (ys := ([[97, 98, 97], [98, 97, 98]] : List (List Nat))) (by unfold LenF; decide +kernel) (by decide) (by decide +kernel) (by decide +kernel) t26 u26
  subst c26 d26
  have dt26 := dp_pair (K := K) e26 a26 b26
  clear e26 a26 b26 t26 u26 y26 z26 i26 k26 w26 v26
  replace ota := ota.same q26
  replace otw := otw.same q26
  replace otc1 := otc1.same q26
  replace sB := sB.trans q26
  refine ⟨by show 2 ≤ sizeLine; decide, fun a18 n18 => ?_⟩
  have s18 := sameNew (o := .lst [(.str (S [97, 98, 97])), (.str (S [98, 97, 98]))]) n18
  have h18 : upd R26 a18 (.lst [(.str (S [97, 98, 97])), (.str (S [98, 97, 98]))]) a18 = some (.lst [(.str (S [97, 98, 97])), (.str (S [98, 97, 98]))]) := upd_same
  generalize upd R26 a18 (.lst [(.str (S [97, 98, 97])), (.str (S [98, 97, 98]))]) = H18 at s18 h18 ⊢
  replace dt26 := dp_same s18 _ _ dt26
  replace sB := sB.trans s18
  have d_18 : Dp K H18 (.ref a18) (.list [(.str (S [97, 98, 97])), (.str (S [98, 97, 98]))]) := .lst (.inl (.inl h18)) (.cons (.str _) (.cons (.str _) .nil))
  replace ota := ota.same s18
  replace otw := otw.same s18
  replace otc1 := otc1.same s18
  refine ⟨by show 2 ≤ sizeLine; decide, fun a19 n19 => ?_⟩
  have s19 := sameNew (o := .lst [(.str (S [97, 98, 97])), (.str (S [98, 97, 98]))]) n19
  have h19 : upd H18 a19 (.lst [(.str (S [97, 98, 97])), (.str (S [98, 97, 98]))]) a19 = some (.lst [(.str (S [97, 98, 97])), (.str (S [98, 97, 98]))]) := upd_same
  generalize upd H18 a19 (.lst [(.str (S [97, 98, 97])), (.str (S [98, 97, 98]))]) = H19 at s19 h19 ⊢
  replace dt26 := dp_same s19 _ _ dt26
  replace d_18 := dp_same s19 _ _ d_18
  replace sB := sB.trans s19
  have d_19 : Dp K H19 (.ref a19) (.list [(.str (S [97, 98, 97])), (.str (S [98, 97, 98]))]) := .lst (.inl (.inl h19)) (.cons (.str _) (.cons (.str _) .nil))
  replace ota := ota.same s19
  replace otw := otw.same s19
  replace otc1 := otc1.same s19
  refine ⟨by show 2 ≤ sizeLine; decide, fun a20 n20 => ?_⟩
  have s20 := sameNew (o := .tup [(.ref a18), (.ref a19)]) n20
  have h20 : upd H19 a20 (.tup [(.ref a18), (.ref a19)]) a20 = some (.tup [(.ref a18), (.ref a19)]) := upd_same
  generalize upd H19 a20 (.tup [(.ref a18), (.ref a19)]) = H20 at s20 h20 ⊢
  replace dt26 := dp_same s20 _ _ dt26
  replace d_18 := dp_same s20 _ _ d_18
  replace d_19 := dp_same s20 _ _ d_19
  replace sB := sB.trans s20
  have d_20 : Dp K H20 (.ref a20) (.tuple [(.list [(.str (S [97, 98, 97])), (.str (S [98, 97, 98]))]), (.list [(.str (S [97, 98, 97])), (.str (S [98, 97, 98]))])]) := .tup (.inl (.inl h20)) (.cons d_18 (.cons d_19 .nil))
  replace ota := ota.same s20
  replace otw := otw.same s20
  replace otc1 := otc1.same s20
  refine ⟨_, _, dt26, d_20, by decide +kernel, by decide +kernel, false, by (rw [show PyData.eqv (.tuple [dwL ([[97, 98, 97], [98, 97, 98]] : List (List Nat)), dwL ([[97, 98, 97], [98, 97, 98]] : List (List Nat))]) (.tuple [(.list [(.str (S [97, 98, 97])), (.str (S [98, 97, 98]))]), (.list [(.str (S [97, 98, 97])), (.str (S [98, 97, 98]))])]) = true by decide +kernel]; rfl), iteF ?_⟩
  clear dt26 d_20
  clear otc1
  exact tail Dn _ x18 _ _ _ _ _ _ none _ _ _ otw q
end
end K59

set_option Elab.async false
set_option linter.all false
set_option maxRecDepth 100000
set_option maxHeartbeats 8000000
set_option exponentiation.threshold 3000
namespace K59
open K59 PySem PySem.Spec PyProof.Rows L2 CK SX NM
open K59W (gname_eq tnext_eq c_law_random sp_random c_law_generator)
theorem ints_of {H : Hp} {B : Nat} : ∀ {vs : List V}, (∀ v ∈ vs, ∃ c : Nat, v = .int c ∧ c < B) → ∃ pt : List Nat, vs = natsV pt ∧ ∀ x ∈ pt, x < B
  | [], _ => ⟨[], rfl, fun c h => nomatch h⟩
  | v :: r, h => by
    obtain ⟨c, rfl, hc⟩ := h v List.mem_cons_self
    obtain ⟨cs, rfl, hs⟩ := ints_of (H := H) (vs := r) fun x hx => h x (List.mem_cons_of_mem _ hx)
    exact ⟨c :: cs, rfl, fun x hx => (List.mem_cons.mp hx).elim (fun e => by rw [e]; exact hc) (hs x)⟩
theorem some_far {m n : Nat} {raw : List Pn} {pt z : List Nat} (n1 : 1 ≤ n) (l : pt.length = m) (h : PM.Pt n (wr pt raw) z) : SomeP m n raw z :=
  ⟨pt.map fun x => min x n, by rw [List.length_map, l], fun x hx => by obtain ⟨y, _, rfl⟩ := List.mem_map.mp hx; exact Nat.min_le_right _ _, (PM.parts_far n1 raw pt z).mp h⟩
theorem every_far {m n : Nat} {raw : List Pn} {pt z : List Nat} (n1 : 1 ≤ n) (l : pt.length = m) (h : EveryP m n raw z) : PM.Pt n (wr pt raw) z :=
  PM.parts_grw raw (h (pt.map fun x => min x (n - 1)) (by rw [List.length_map, l]) fun x hx => by obtain ⟨y, _, rfl⟩ := List.mem_map.mp hx; have := Nat.min_le_right y (n - 1); omega)
section
variable {P : Program} {w : World} {K : PySem.W.Frag} {mg : Str → Option Value} {base : Heap} {C E_InvalidText E_InvalidNumber E_TooMany E_CountError : Addr}
theorem good_mid (T : Txt K mg C E_InvalidText E_InvalidNumber E_TooMany E_CountError) (f0 : Addr) (cdv : Value) (A : Around) (outer : List Env) (s0 : Shared) (H0 : Hp) (E : XK) (hr : Room 8 (A.deeper (envOfC "_law_good" (C8.fnScope (topS 68)) s0.heap.objs.size f0 cdv))) (gd : A.guards = some []) :
    ∃ u, PSs (cxOf C8.CX0 P w K mg base ["_law_generator_here", "_law_many", "_law_pieces_here", "_law_letters", "_law_text", "_law_found", "_law_part", "_law_bound", "_law_shown", "_law_at", "_law_word_here", "_law_kept"] "_law_good" (C8.fnScope (topS 68)) f0 cdv A outer s0 H0 E).nox ((C8.fnBody (topS 68)).drop 4) u ∧
      ∀ (Dn : Ends) (HB H : Hp) (g l tx r l1 l2 : Addr) (raw : List Pn) (m n k0 k : Nat) (v6 v7 v8 v9 v10 v11 : Option V) (zs ys : List (List Nat)),
        PL HB l raw → (∀ p ∈ raw, DrP m p) → raw.length ≤ 9 → OT C HB tx m (normL raw) → m ≤ 3 → 1 ≤ n → n ≤ 4 → SameX g HB H → Gn k0 HB g → Gn (k + 10) H g → HB l1 = none → HB l2 = none → l1 ≠ l2 →
        H r = some (.tup [.ref l1, .ref l2]) → H l1 = some (.lst (zs.map fun z => .str (S z))) → H l2 = some (.lst (ys.map fun z => .str (S z))) → Told zs (SomeP m n raw) → Told ys (EveryP m n raw) →
        (∀ H', SameX g HB H' → Gn k H' g → Dn.rt (.bl true) H') →
        u Dn [some (.ref g), some (.int (m : Nat)), some (.ref l), some (.int (n : Nat)), some (.ref tx), some (.ref r), v6, v7, v8, v9, v10, v11] H := by
  obtain ⟨u, hu, tail⟩ := good_tail (P := P) (w := w) (base := base) T f0 cdv A outer s0 H0 E hr gd
  refine ⟨_, (pss_cons (ps_for PassesOwn.never rfl (pi_list (pe_lst (pa_cons (pe_op op_mulW pe_int (pv 3)) (pa_cons (pe_op op_powB pe_int pe_int) pa_nil)))) (pg_name (i := 7) sc_law_good.nd rfl (Or.inr rfl))
    (pss_cons (ps_set (i := 8) sc_law_good.nd rfl (Or.inr rfl) (C8.pe_c (c_law_parts T) hr (by decide) (by rfl) (pa_cons (pv 2) (pa_cons (pe_lc (own := [("_law_at", 9)]) (by rfl) sc_law_good.nd (pi_range1 (by rfl) T.m_range (pa_cons (pv 1) pa_nil)) (blkOk_by (N := ["_law_generator_here", "_law_many", "_law_pieces_here", "_law_letters", "_law_text", "_law_found", "_law_part", "_law_bound", "_law_shown", "_law_at", "_law_word_here", "_law_kept"]) (sc := C8.fnScope (topS 68)) (own := [("_law_at", 9)]) (by decide +kernel)) (fun _ _ _ _ _ => (pg_name (i := 9) sc_law_good.nd rfl (Or.inl rfl))) (fun _ _ _ _ _ => pts_nil) (fun _ _ _ _ _ => (C8.pe_c (c_law_random T) hr (by decide) (by rfl) (pa_cons (pv 0) (pa_cons (pv 7) pa_nil))))) (pa_cons (pv 3) pa_nil)))))
    (pss_one (ps_if (PW.pt (pw_or (pt_cmpR (op_neD hr.units) (pe_lock (pe_lc (own := [("_law_word_here", 10)]) (by rfl) sc_law_good.nd (pi_keys (pv 8)) (blkOk_by (N := ["_law_generator_here", "_law_many", "_law_pieces_here", "_law_letters", "_law_text", "_law_found", "_law_part", "_law_bound", "_law_shown", "_law_at", "_law_word_here", "_law_kept"]) (sc := C8.fnScope (topS 68)) (own := [("_law_word_here", 10)]) (by decide +kernel)) (fun _ _ _ _ _ => (pg_name (i := 10) sc_law_good.nd rfl (Or.inl rfl))) (fun _ _ _ _ _ => (pts_one (pt_cmpR (op_notInK (K := K) rfl) (pv 10) (pe_ix ix_tupH (pv 5) pe_int (fun _ _ => rfl)) (by rfl)))) (fun _ _ _ _ _ => (pv 10)))) (pe_lst pa_nil) (nomark _)) (pw_or1 (pt_cmpR (op_neD hr.units) (pe_lc (own := [("_law_word_here", 10)]) (by rfl) sc_law_good.nd (pi_list (pe_ix ix_tup (pv 5) pe_int (fun _ _ => rfl))) (blkOk_by (N := ["_law_generator_here", "_law_many", "_law_pieces_here", "_law_letters", "_law_text", "_law_found", "_law_part", "_law_bound", "_law_shown", "_law_at", "_law_word_here", "_law_kept"]) (sc := C8.fnScope (topS 68)) (own := [("_law_word_here", 10)]) (by decide +kernel)) (fun _ _ _ _ _ => (pg_name (i := 10) sc_law_good.nd rfl (Or.inl rfl))) (fun _ _ _ _ _ => (pts_one (pt_cmp (pc_dnotin (room1 hr) (pv 10) (pv 8))))) (fun _ _ _ _ _ => (pv 10))) (pe_lst pa_nil) (nomark _)))))
    (pss_one (ps_ret pe_bl))
    pss_nil))))
    hu), ?_⟩
  intro Dn HB H g l tx r l1 l2 raw m n k0 k v6 v7 v8 v9 v10 v11 zs ys pl dr few ot m3 n1 n4 xB GB G n1' n2' l12 hr0 h1 h2 t1 t2 q
  have lg1 : l1 ≠ g := Gn.ne GB n1'
  have lg2 : l2 ≠ g := Gn.ne GB n2'
  have rg : r ≠ g := fun e => by obtain ⟨_, _, _, hg, _⟩ := G; rw [e, hg] at hr0; cases hr0
  refine ⟨_, rfl, 3, (n : Nat), rfl, rfl, wide_mul (a := 10) (b := 20) (by decide) (by omega) (by decide) (by decide) (by decide), 10, 20, rfl, rfl, ⟨by decide, by decide⟩, by show 2 ≤ sizeLine; decide, fun La nLa => ?_⟩
  dsimp only
  rw [show (3 : Int) * ((n : Nat) : Int) = ((3 * n : Nat) : Int) by omega, show (10 : Int) ^ (20 : Int).toNat = ((10 ^ 20 : Nat) : Int) by decide +kernel]
  have sLa := sameNew (o := .lst [.int (3 * n : Nat), .int (10 ^ 20 : Nat)]) nLa
  have hLa : upd H La (.lst [.int (3 * n : Nat), .int (10 ^ 20 : Nat)]) La = some (.lst [.int (3 * n : Nat), .int (10 ^ 20 : Nat)]) := upd_same
  have Lag := Gn.ne G nLa
  have GA := G.same sLa
  generalize upd H La (.lst [.int (3 * n : Nat), .int (10 ^ 20 : Nat)]) = HA at sLa hLa GA ⊢
  have xA : SameX g HB HA := xB.trans (.of sLa)
  have hrA := sLa _ _ hr0
  have h1A := sLa _ _ h1
  have h2A := sLa _ _ h2
  refine ⟨La, rfl, ⟨_, .inl (.inl hLa)⟩, for_list (K := K) (D := { nx := _, rt := Dn.rt, bk := fun _ _ => False, ct := fun _ _ => False }) (a := La) (xs := [.int (3 * n : Nat), .int (10 ^ 20 : Nat)]) (fun i σ HH => SameX g HA HH ∧ Gn (k + 5 * (2 - i)) HH g ∧ ∃ y6 y7 y8 y9 y10, σ = [some (.ref g), some (.int (m : Nat)), some (.ref l), some (.int (n : Nat)), some (.ref tx), some (.ref r), y6, y7, y8, y9, y10, v11]) ⟨.refl _ _, GA.le (by omega), v6, v7, v8, v9, v10, rfl⟩ (fun i σ HH _ p => .inl (.inl (p.1 _ _ Lag hLa))) (fun i v σ HH hi p => ?_) (fun σ HH p => ?_)⟩
  · obtain ⟨sx, GH, y6, y7, y8, y9, y10, rfl⟩ := p
    obtain ⟨B, rfl, b1, b2, i2⟩ : ∃ B : Nat, v = .int (B : Nat) ∧ 1 ≤ B ∧ B ≤ 10 ^ 20 ∧ i < 2 := by
      match i, hi with
      | 0, hi => exact ⟨3 * n, (Option.some.inj hi).symm, by omega, by omega, by decide⟩
      | 1, hi => exact ⟨10 ^ 20, (Option.some.inj hi).symm, by decide, Nat.le_refl _, by decide⟩
      | _ + 2, hi => cases hi
    obtain ⟨kk, hkk⟩ : ∃ kk, kk = k + 5 * (2 - (i + 1)) := ⟨_, rfl⟩
    rw [gname_eq]
    refine ⟨_, rfl, _, rfl, (m : Int), rfl, by omega, by omega, fun D hD => ?_⟩
    refine lcH_draw 1 (lo := 0) (g := g) (n := kk) (cnt := ((m : Int)).toNat) (fun v _ => ∃ c : Nat, v = .int c ∧ c < 2 ^ 110) (fun _ _ _ _ h => h) (by rw [sizeLine_eq]; omega) hD (GH.le (by omega)) (fun i H6 R hi s6 G6 q' => ?_) fun H7 ns s7 G7 hL hln hP => ?_
    · refine ⟨rfl, _, rfl, _, rfl, g, B, _, rfl, G6, by omega, by omega, fun b H8 s8 G8 b0 b1 => ?_⟩
      exact q' (.int b) H8 s8 G8 ⟨b.toNat, congrArg V.int (by omega), Nat.lt_of_lt_of_le (by omega : b.toNat < 10 ^ 20 + 1) (by decide)⟩
    · obtain ⟨pt, rfl, bpt⟩ := ints_of (H := H7) hP
      rw [natsV_len, Int.toNat_natCast] at hln
      have xB7 : SameX g HB H7 := xA.trans (sx.trans s7)
      refine ⟨_, rfl, l, D, n, raw, pt, rfl, pl_x pl GB xB7, hL, by rw [hln]; exact rawB_dr dr few, by omega, bpt, by omega, fun DS H8 ks s8 nDS kd lk mem => ?_⟩
      obtain ⟨kvs, hk, kk⟩ := kd
      have xB8 := xB7.trans (.of s8)
      have x78 : SameX g HA H8 := sx.trans (s7.trans (.of s8))
      have hr8 := x78 _ _ rg hrA
      have h18 := x78 _ _ lg1 h1A
      have h28 := x78 _ _ lg2 h2A
      have lks := kk.len
      have rDS : r ≠ DS := fun e => by rw [e, hk] at hr8; cases hr8
      have d1S : l1 ≠ DS := fun e => by rw [e, hk] at h18; cases h18
      have d2S : l2 ≠ DS := fun e => by rw [e, hk] at h28; cases h28
      dsimp only
      rw [gname_eq]
      refine ⟨DS, .dK kvs, hk, trivial, fun od => ?_⟩
      have hfz := upd_same (H := H8) (a := DS) (o := .frz od (.dK kvs))
      refine ⟨_, rfl, DS, od, rfl, .inl ⟨kvs, hfz, fun Dn hDn => ?_⟩⟩
      have DnD : Dn ≠ DS := fun e => by rw [e, hfz] at hDn; cases hDn
      refine lc_keys (ks := kvs) (fun j HB => Same (upd H8 DS (.frz od (.dK kvs))) HB ∧ HB Dn = some (.lst [])) ⟨sameNew hDn, upd_same⟩ (fun j HB _ p => p.1 _ _ hfz) (fun j ky v HB hj p => ?_) fun HB p => ?_
      · obtain ⟨sB, hDB⟩ := p
        obtain ⟨z, hz, rfl⟩ : ∃ z, ks[j]? = some z ∧ ky = Sum.inr (S z) := by
          have e := congrArg (fun l => l[j]?) kk.1
          simp only [List.getElem?_map, hj] at e
          cases e2 : ks[j]? with
          | none => rw [e2] at e; cases e
          | some z => rw [e2] at e; exact ⟨z, rfl, Option.some.inj e⟩
        have zin : z ∈ zs := (t1.2.2 z).mpr (some_far n1 hln ((mem z).mp (List.mem_of_getElem? hz)))
        have hrB := sB _ _ (by rw [upd_ne rDS]; exact hr8)
        have h1B := sB _ _ (by rw [upd_ne d1S]; exact h18)
        refine ⟨rfl, _, rfl, _, rfl, r, _, 0, .ref l1, rfl, rfl, hrB, rfl, l1, _, rfl, .inl (.inl (.inl h1B)), rfl, flat_words zs, _, rfl, ?_⟩
        rw [if_pos rfl, show kV (Sum.inr (S z)) = V.str (S z) from rfl, in_words, decide_eq_true zin]
        exact iteF ⟨sB, hDB⟩
      · obtain ⟨sB, hDB⟩ := p
        obtain ⟨hfB, sU⟩ := same_lock hk sB
        refine ⟨hfB, ?_⟩
        have hDU : upd HB DS (.dK kvs) Dn = some (.lst []) := by rw [upd_ne DnD]; exact hDB
        have hkU : upd HB DS (.dK kvs) DS = some (.dK kvs) := upd_same
        generalize upd HB DS (.dK kvs) = HU at sU hDU hkU ⊢
        refine ⟨by show 0 ≤ sizeLine; decide, fun e he => ?_⟩
        have se := sameNew (o := .lst []) he
        have hE : upd HU e (.lst []) e = some (.lst []) := upd_same
        have hDE := se _ _ hDU
        generalize upd HU e (.lst []) = HV at se hE hDE ⊢
        refine ⟨.list [], .list [], .lst (.inl (.inl hDE)) .nil, .lst (.inl (.inl hE)) .nil, by decide, by decide, false, by rfl, iteF ?_⟩
        have sV := sU.trans se
        have hrV := sV _ _ hr8
        have h2V := sV _ _ h28
        have hkV := se _ _ hkU
        refine ⟨_, rfl, r, _, 1, .ref l2, rfl, rfl, .inl (.inl hrV), rfl, l2, rfl, ⟨_, .inl (.inl h2V)⟩, fun D2 nD2 => ?_⟩
        refine lc_list (K := K) (a := l2) (xs := ys.map fun z => .str (S z)) (fun i H2 => Same HV H2 ∧ H2 D2 = some (.lst [])) ⟨sameNew nD2, upd_same⟩ (fun i H2 _ p => .inl (.inl (p.1 _ _ h2V))) (fun i y H2 hi p => ?_) fun H2 p => ?_
        · obtain ⟨s2, hD2⟩ := p
          rw [List.getElem?_map] at hi
          obtain ⟨z, hz, rfl⟩ := Option.map_eq_some_iff.mp hi
          have zin : z ∈ ks := (mem z).mpr (every_far n1 hln ((t2.2.2 z).mp (List.mem_of_getElem? hz)))
          refine ⟨rfl, _, rfl, _, rfl, DS, _, rfl, DGet.k (k := Sum.inr (S z)) (s2 _ _ hkV), ?_⟩
          rw [kk.get, decide_eq_true zin]
          refine ⟨_, rfl, iteF ⟨s2, hD2⟩⟩
        · obtain ⟨s2, hD2⟩ := p
          refine ⟨by show 0 ≤ sizeLine; decide, fun e2 he2 => ?_⟩
          have se2 := sameNew (o := .lst []) he2
          refine ⟨.list [], .list [], .lst (.inl (.inl (se2 _ _ hD2))) .nil, .lst (.inl (.inl upd_same)) .nil, by decide, by decide, false, by rfl, iteF ?_⟩
          exact ⟨x78.trans (.of (sV.trans (s2.trans se2))), ((G7.same (s8.trans (sV.trans (s2.trans se2)))).le (by omega)), _, _, _, _, _, rfl⟩
  · obtain ⟨sx, GH, y6, y7, y8, y9, y10, rfl⟩ := p
    exact tail Dn HB HH g l tx r l1 l2 raw m n k0 k _ _ _ _ _ _ zs ys pl dr few ot m3 n1 n4 (xA.trans sx) GB (GH.le (by omega)) n1' n2' l12 (sx _ _ rg hrA) (sx _ _ lg1 h1A) (sx _ _ lg2 h2A) t1 t2 q
end
end K59

set_option Elab.async false
set_option linter.all false
set_option maxRecDepth 100000
set_option maxHeartbeats 8000000
set_option exponentiation.threshold 3000
namespace K59
open K59 PySem PySem.Spec PyProof.Rows L2 CK SX NM
open K59W (gname_eq tnext_eq c_law_random sp_random c_law_generator)
section
variable {P : Program} {w : World} {K : PySem.W.Frag} {mg : Str → Option Value} {base : Heap} {C E_InvalidText E_InvalidNumber E_TooMany E_CountError : Addr}
def sp_good (C : Addr) : Sp := fun vs H Q _ => ∃ (g l : Addr) (raw : List Pn) (m n k : Nat), vs = [.ref g, .int m, .ref l, .int n] ∧ m ≤ 3 ∧ PL H l raw ∧ (∀ p ∈ raw, DrP m p) ∧ raw.length ≤ 9 ∧ 1 ≤ n ∧ n ≤ 4 ∧ Gn (k + 10) H g ∧ ∀ H', SameX g H H' → Gn k H' g → Q (.bl true) H'
theorem c_law_good (T : Txt K mg C E_InvalidText E_InvalidNumber E_TooMany E_CountError) : CalG P w K mg base 9 "_law_good" (sp_good C) := by
  refine calG T.d_law_good sc_law_good (fun vs H Q E h => ?_) (fun f cdv A outer z H vs Q E hr gd h => ?_)
  · obtain ⟨_, _, _, _, _, _, rfl, _⟩ := h; rfl
  · obtain ⟨g, l, raw, m, n, k, rfl, m3, pl, dr, few, n1, n4, G, q⟩ := h
    obtain ⟨u, hu, tail⟩ := good_mid (P := P) (w := w) (base := base) T f cdv A outer z H E hr gd
    refine ⟨_, (pss_cons (ps_set (i := 4) sc_law_good.nd rfl (Or.inl rfl) (C8.pe_mk (n_OpenText T) hr (by decide) (by rfl) (pa_cons (pv 1) (pa_cons (pv 2) pa_nil))))
    (pss_cons (ps_set (i := 5) sc_law_good.nd rfl (Or.inr rfl) (C8.pe_c (c_parts_of T) hr (by decide) (by rfl) (pa_cons (pv 4) (pa_cons (pv 3) pa_nil))))
    (pss_cons (ps_if (PW.pt (pw_or (pt_not (pt_val (pe_callB call_isK (by rfl) T.m_isinstance (by decide +kernel) (pa_cons (pv 5) (pa_cons (pe_bltn (v := .ty "tuple") (by rfl) T.m_tuple (by decide +kernel) rfl) pa_nil))))) (pw_or1 (pt_cmpR (op_neD hr.units) (pe_lc (own := [("_law_part", 6)]) (by rfl) sc_law_good.nd (pi_tup (pv 5)) (blkOk_by (N := ["_law_generator_here", "_law_many", "_law_pieces_here", "_law_letters", "_law_text", "_law_found", "_law_part", "_law_bound", "_law_shown", "_law_at", "_law_word_here", "_law_kept"]) (sc := C8.fnScope (topS 68)) (own := [("_law_part", 6)]) (by decide +kernel)) (fun _ _ _ _ _ => (pg_name (i := 6) sc_law_good.nd rfl (Or.inl rfl))) (fun _ _ _ _ _ => pts_nil) (fun _ _ _ _ _ => (pe_callTy call_listL (by rfl) T.m_list (by decide +kernel) (pa_cons (pv 6) pa_nil)))) (C8.pe_c (c_law_due T) hr (by decide) (by rfl) (pa_cons (pv 2) (pa_cons (pv 1) (pa_cons (pv 3) pa_nil)))) (nomark _)))))
    (pss_one (ps_ret pe_bl))
    pss_nil)
    (pss_cons (ps_if (PW.pt (pw_or (pt_not (pt_val (pe_callB call_isK (by rfl) T.m_isinstance (by decide +kernel) (pa_cons (pe_ix ix_tup (pv 5) pe_int (fun _ _ => rfl)) (pa_cons (pe_bltn (v := .ty "list") (by rfl) T.m_list (by decide +kernel) rfl) pa_nil))))) (pw_or1 (pt_not (pt_val (pe_callB call_isK (by rfl) T.m_isinstance (by decide +kernel) (pa_cons (pe_ix ix_tup (pv 5) pe_int (fun _ _ => rfl)) (pa_cons (pe_bltn (v := .ty "list") (by rfl) T.m_list (by decide +kernel) rfl) pa_nil))))))))
    (pss_one (ps_ret pe_bl))
    pss_nil)
    hu)))), ?_⟩
    obtain ⟨i1, i3⟩ := dr_sums m3 raw dr
    obtain ⟨us, hus, pus⟩ := id pl
    have gl : GL H m l raw := gl_of hus pus dr (by omega)
    refine ⟨_, rfl, _, rfl, fun x dx nx ndx ne => mk_ot m3 gl (by omega) (by unfold Wl; exact Nat.lt_of_le_of_lt i3 (Nat.lt_of_le_of_lt (Nat.mul_le_mul (Nat.le_refl _) few) (by decide +kernel))) nx ndx ne fun H1 s1 ot => ?_⟩
    have G1 := G.same s1
    have pl1 := pl.same s1
    dsimp only
    rw [gname_eq]
    have tx' := tx_dr m3 dr few
    have nm4 : n ^ m ≤ 64 := Nat.le_trans (Nat.pow_le_pow_left n4 m) (Nat.le_trans (Nat.pow_le_pow_right (by decide) m3) (by decide))
    refine ⟨_, rfl, _, rfl, .ref x, .int n, rfl, .inr (.inr (.inr ⟨x, m, normL raw, n, rfl, rfl, ot, tx', m3, n1, by omega, by omega, fun p1 p2 r H2 zs ys s2 j1 j2 j3 j12 e1 e2 e3 t1 t2 b1 b2 => ?_⟩))⟩
    rw [some_norm (lenF_dr dr)] at t1
    rw [every_norm (lenF_dr dr)] at t2
    dsimp only
    rw [gname_eq]
    have kr : Kn H2 (.ref r) := .tup e1
    refine ⟨_, rfl, .ref r, "tuple", _, rfl, kr, kit_tuple kr, _, rfl, ?_⟩
    rw [isTu_tup e1]
    refine iteF ?_
    refine ⟨_, rfl, r, rfl, ⟨_, .inl (.inl e1)⟩, fun D nD => lc_tupS (K := K) (a := r) (xs := [.ref p1, .ref p2]) (fun i HH => Same H2 HH ∧ ∃ us, HH D = some (.lst us) ∧ us.length = i ∧ ∀ j : Nat, ∀ v, us[j]? = some v → ∃ b, v = V.ref b ∧ b ≠ D ∧ HH b = some (.lst (([zs, ys].getD j []).map fun z => .str (S z)))) ⟨sameNew nD, [], upd_same, rfl, fun j v h => nomatch h⟩ (fun i HH _ p => .inl (.inl (p.1 _ _ e1))) (fun i v HH hi p => ?_) fun HH p => ?_⟩
    · obtain ⟨s, us, hD, lu, hu⟩ := p
      obtain ⟨b, c, rfl, ec, ib⟩ : ∃ (b : Addr) (c : List (List Nat)), v = .ref b ∧ H2 b = some (.lst (c.map fun z => .str (S z))) ∧ ([zs, ys].getD i [] = c ∧ i < 2) := by
        match i, hi with
        | 0, hi => exact ⟨p1, zs, (Option.some.inj hi).symm, e2, rfl, by decide⟩
        | 1, hi => exact ⟨p2, ys, (Option.some.inj hi).symm, e3, rfl, by decide⟩
        | _ + 2, hi => cases hi
      refine ⟨rfl, yes_if ⟨_, rfl, b, _, rfl, s _ _ ec, fun L nL => ?_⟩⟩
      have sL := sameNew (o := .lst (c.map fun z => V.str (S z))) nL
      have LD : L ≠ D := fun z => by rw [z, hD] at nL; cases nL
      refine ⟨us, sL _ _ hD, by rw [lu, sizeLine_eq]; omega, same_upd2 nD (s.trans sL), us ++ [.ref L], upd_same, by rw [List.length_append, lu]; rfl, fun j v h => ?_⟩
      by_cases hj : j < us.length
      · rw [List.getElem?_append_left hj] at h
        obtain ⟨b', q1, q2, q3⟩ := hu j v h
        exact ⟨b', q1, q2, by rw [upd_ne q2]; exact sL _ _ q3⟩
      · rw [List.getElem?_append_right (by omega)] at h
        have hj' : j = i := by
          have := (List.getElem?_eq_some_iff.mp h).1
          simp at this
          omega
        rw [hj', lu, Nat.sub_self] at h
        refine ⟨L, (Option.some.inj h).symm, LD, ?_⟩
        rw [upd_ne LD, upd_same, hj', ib.1]
    · obtain ⟨s, us, hD, lu, hu⟩ := p
      have dD : Dp K HH (.ref D) (.list [dwL zs, dwL ys]) := two_us hD lu hu
      clear hu hD
      refine ⟨_, rfl, _, rfl, _, rfl, l, m, n, raw, rfl, pl1.same (s2.trans s), rawB_dr dr few, m3, n1, n4, fun Dd m1 m2 HD cs ds sd nDd hDd hm1 hm2 U1 U2 => ?_⟩
      cases t1.one U1
      cases t2.one U2
      have as1 := some_ab dr t1
      have bs1 := every_ab n1 dr t2
      have sh : SeqAt.shaped (.list [dwL zs, dwL ys]) = true := shaped_two (fun z hz => (as1 z hz).1) fun z hz => (bs1 z hz).1
      refine ⟨_, _, dp_same sd _ _ dD, dp_lpair hDd hm1 hm2, sh, sh, false, by (rw [eqv_two, decide_eq_true rfl, decide_eq_true rfl]; rfl), iteF ?_⟩
      have s3 := s.trans sd
      have f1 := s3 _ _ e1
      have f2 := s3 _ _ e2
      have f3 := s3 _ _ e3
      have k1 : Kn HD (.ref p1) := .lst f2
      have k2 : Kn HD (.ref p2) := .lst f3
      refine ⟨_, rfl, r, _, 0, .ref p1, rfl, rfl, .inl (.inl f1), rfl, .ref p1, "list", _, rfl, k1, kit_list k1, _, rfl, ?_⟩
      rw [isLi_lst f2]
      refine iteF ⟨_, rfl, r, _, 1, .ref p2, rfl, rfl, .inl (.inl f1), rfl, .ref p2, "list", _, rfl, k2, kit_list k2, _, rfl, ?_⟩
      rw [isLi_lst f3]
      refine iteF ?_
      exact tail _ H1 HD g l x r p1 p2 raw m n (k + 10) k _ _ _ _ _ _ zs ys pl1 dr few ot m3 n1 n4 (.of (s2.trans s3)) G1 (G1.same (s2.trans s3)) j1 j2 j12 f1 f2 f3 t1 t2 fun H' sx G' => q H' (.trans (.of s1) sx) G'
end
end K59

set_option Elab.async false
set_option linter.all false
set_option maxRecDepth 100000
set_option maxHeartbeats 8000000
set_option exponentiation.threshold 3000
namespace K59
open K59 PySem PySem.Spec PyProof.Rows L2 CK SX NM
open K59W (gname_eq tnext_eq c_law_generator c_law_random)
def sp_law (K : PySem.W.Frag) : Sp := fun vs H Q _ => ∃ (a : Addr) (ns : List Int), vs = [.ref a] ∧ SqL K H a (ns.map V.int) ∧ ns.length ≤ 63 ∧ ∀ H', Q (.bl true) H'
theorem law_end {l : PySem.W.OpenLaw} {w : World} {K : PySem.W.Frag} {mg : Str → Option Value} {fa C E_InvalidText E_InvalidNumber E_TooMany E_CountError : Addr} (T : Txt K mg C E_InvalidText E_InvalidNumber E_TooMany E_CountError) (hfa : mg "law" = some (.ref fa)) :
    ∃ fd : FuncData, (∀ (s : Shared) (v : Value), BindsTo s fd ⟨[v], []⟩ [("_law_script", v)]) ∧ ∀ base : Heap, K.In base → base.Ns mainGlobals mg → FnG l.prog w K mg base 10 fa fd ["_law_script"] (sp_law K) := by
  obtain ⟨f, fd, hm, hb, hF⟩ := T.d_law.oneG
  have e := hfa.symm.trans hm
  cases e
  refine ⟨fd, hb, fun base _ _ => hF sc_law (fun vs H Q E h => ?_) (fun cdv A outer s H vs Q E hr gd0 h => ?_)⟩
  · obtain ⟨_, _, rfl, _⟩ := h; rfl
  · obtain ⟨sa, ns, rfl, hS, hl, q⟩ := h
    have gd : (A.deeper (envOfC "law" (C8.fnScope (topS 70)) s.heap.objs.size fa cdv)).guards = some [] := gd0
    obtain ⟨u, hu, tail⟩ := law_1 T fa cdv A outer s H E hr gd0
    refine ⟨_, (pss_cons (ps_for PassesOwn.never rfl (pi_range1 (by rfl) T.m_range (pa_cons pe_int pa_nil)) (pg_name (i := 1) sc_law.nd rfl (Or.inl rfl))
    (pss_cons (ps_set (i := 2) sc_law.nd rfl (Or.inl rfl) (C8.pe_c (c_law_generator T) hr (by decide) (by rfl) (pa_cons (pv 0) (pa_cons (pv 1) pa_nil))))
    (pss_cons (ps_set (i := 3) sc_law.nd rfl (Or.inl rfl) (C8.pe_c (c_law_random T) hr (by decide) (by rfl) (pa_cons (pv 2) (pa_cons pe_int pa_nil))))
    (pss_cons (ps_set (i := 4) sc_law.nd rfl (Or.inl rfl) (C8.pe_c (c_law_laced T) hr (by decide) (by rfl) (pa_cons (pv 2) (pa_cons (pv 3) (pa_cons (C8.pe_c (c_law_pieces T) hr (by decide) (by rfl) (pa_cons (pv 2) (pa_cons (pv 3) (pa_cons pe_int (pa_cons pe_bl pa_nil))))) pa_nil)))))
    (pss_one (ps_if (pt_not (pt_val (pe_cG (c_law_good T) hr gd (by decide) (by rfl) (pa_cons (pv 2) (pa_cons (pv 3) (pa_cons (pv 4) (pa_cons (pe_op op_add (C8.pe_c (c_law_random T) hr (by decide) (by rfl) (pa_cons (pv 2) (pa_cons (pe_ifExp (pt_cmpR op_lt (pv 3) pe_int (nomark _)) pe_int pe_int) pa_nil))) pe_int) pa_nil)))))))
    (pss_one (ps_ret pe_bl))
    pss_nil))))))
    hu), ?_⟩
    refine ⟨2, rfl, by decide, by decide, ?_⟩
    refine for_it walk_range (fun i σ H' => Same H H' ∧ ∃ y1 y2 y3 y4, σ = [some (.ref sa), y1, y2, y3, y4, none, none, none, none, none]) ⟨Same.refl _, none, none, none, none, rfl⟩ (fun _ _ _ _ _ => True.intro) (fun i x σ H' H'' hi p y => ?_) fun σ H' p => ?_
    · obtain ⟨s0, y1, y2, y3, y4, rfl⟩ := p
      obtain ⟨rfl, rfl⟩ := y
      have i4 : i < 2 := hi
      refine ⟨_, rfl, _, rfl, sa, ns, i, by show [V.ref sa, V.int (0 + (i : Int))] = _; rw [Int.zero_add], s0.seq hS, by omega, fun g H1 H2 s1 n1 s2 G2 => ?_⟩
      refine ⟨_, rfl, g, 4, 99000, rfl, G2.le (by decide), by decide, by decide, fun m0 H3 s3 G3 z0 z1 => ?_⟩
      obtain ⟨m, rfl⟩ : ∃ m : Nat, m0 = m := ⟨m0.toNat, by omega⟩
      dsimp only
      rw [gname_eq]
      refine ⟨_, rfl, _, rfl, _, rfl, _, rfl, g, m, 98000, rfl, by omega, G3.le (by decide), fun lp ps H4 s4 G4 lg gl few dr => ?_⟩
      refine ⟨g, lp, m, 97000, ps, rfl, by omega, G4.le (by decide), lg, gl.at_, dr, few, fun l2 qs H5 s5 G5 lg2 pl2 dr2 few2 => ?_⟩
      dsimp only
      rw [gname_eq]
      have fin : ∀ {H7 : Hp}, SameX g H5 H7 → Same H H7 := fun {H7} sx b o e => by
        have e1 := s1 _ _ (s0 _ _ e)
        have nb : b ≠ g := ne_of_none e1 n1
        exact sx _ _ nb (s5 _ _ nb (s4 _ _ nb (s3 _ _ nb (s2 _ _ e1))))
      refine ⟨_, rfl, _, rfl, _, rfl, _, rfl, _, rfl, _, _, rfl, rfl, _, rfl, ?_⟩
      by_cases c : ((m : Nat) : Int) < 3
      · rw [decide_eq_true c]
        refine iteT ⟨g, 4, 96000, rfl, G5.le (by decide), by decide, by decide, fun r H6 s6 G6 r0 r1 => ⟨r, 1, rfl, rfl, g, l2, qs, m, r.toNat + 1, 95000, ?_, by omega, pl_x pl2 G5 s6, dr2, few2, by omega, by omega, G6.le (by decide), fun H7 s7 G7 => ⟨true, rfl, iteF ⟨fin (s6.trans s7), _, _, _, _, rfl⟩⟩⟩⟩
        show [V.ref g, V.int (m : Nat), V.ref l2, V.int (r + 1)] = _
        rw [show ((r.toNat + 1 : Nat) : Int) = r + 1 by omega]
      · rw [decide_eq_false c]
        refine iteF ⟨g, 3, 96000, rfl, G5.le (by decide), by decide, by decide, fun r H6 s6 G6 r0 r1 => ⟨r, 1, rfl, rfl, g, l2, qs, m, r.toNat + 1, 95000, ?_, by omega, pl_x pl2 G5 s6, dr2, few2, by omega, by omega, G6.le (by decide), fun H7 s7 G7 => ⟨true, rfl, iteF ⟨fin (s6.trans s7), _, _, _, _, rfl⟩⟩⟩⟩
        show [V.ref g, V.int (m : Nat), V.ref l2, V.int (r + 1)] = _
        rw [show ((r.toNat + 1 : Nat) : Int) = r + 1 by omega]
    · obtain ⟨s0, y1, y2, y3, y4, rfl⟩ := p
      exact tail _ H' _ _ _ _ _ _ _ _ _ _ fun H'' => q H''
end K59

open PySem PySem.W PyProof.Rows
set_option maxHeartbeats 0 in
theorem PySem.Challenge.cw_countscribe_k59_whole_parts_of_texts_holds : PySem.Challenge.rw_countscribe_k59_whole_parts_of_texts.Holds := by
  w_on; o_law; k_head; (case hw => w_witness2)
  k_fill
  refine CK.walkG (l := PySem.Challenge.rw_countscribe_k59_whole_parts_of_texts) (n := 63) (k := 10) (x := "_law_script") (sp := fun w => K59.sp_law _) rfl (by decide) rfl ⟨rfl, by decide, by decide⟩ (fun w h Y => PySem.W.kIn_of Y) ?F (fun _ _ a ns hl _ hS => ⟨a, ns, rfl, hS, hl, fun _ => rfl⟩)
  case F =>
    intro w mg fa h KX G hmg
    refine' CK.with_err KX "InvalidText" "value" (L2.inClass (K59.topS 4) 0) (CK.errF_mk KX G "InvalidText.__init__" (L2.inClass (K59.topS 4) 0) ?a ?lk ?bm ?sa ?eC ?tC ?kp ?ga ?gg ?hd ?hcl ?hn ?ht ?hm ?no ?rf ?ii ?it ?il ?ic ?ik ?dl ?dm ?dr ?bd ?sc ?l1 ?l2 ?n1 ?n2 ?by_) fun x_InvalidText => ?_
    (case a => k_is); (case lk => k_is); (case bm => decide +kernel); (case sa => k_is); (case eC => k_is); (case tC => k_is); (case kp => k_is); (case ga => k_is); (case gg => k_is); (case hd => k_is); (case hcl => k_is); (case hn => k_is); (case ht => k_is); (case hm => k_is); (case no => k_is); (case rf => first | rfl | k_is); (case ii => k_is); (case it => k_is); (case il => k_is); (case ic => k_is); (case ik => k_is); (case dl => k_is); (case dm => rfl); (case dr => first | rfl | exact ⟨_, rfl⟩)
    (case bd => exact fun _ _ _ _ _ _ _ us its h1 h2 => match us, its, h1, h2 with | [_, _], [_], _, _ => ⟨_, rfl, rfl⟩); (case sc => exact C8.fnScope_by (by decide +kernel)); (case l1 => rfl); (case l2 => rfl); (case n1 => decide); (case n2 => decide); (case by_ => exact ⟨_, _, _, _, rfl⟩)
    refine' CK.with_err KX "InvalidNumber" "value" (L2.inClass (K59.topS 2) 0) (CK.errF_mk KX G "InvalidNumber.__init__" (L2.inClass (K59.topS 2) 0) ?a ?lk ?bm ?sa ?eC ?tC ?kp ?ga ?gg ?hd ?hcl ?hn ?ht ?hm ?no ?rf ?ii ?it ?il ?ic ?ik ?dl ?dm ?dr ?bd ?sc ?l1 ?l2 ?n1 ?n2 ?by_) fun x_InvalidNumber => ?_
    (case a => k_is); (case lk => k_is); (case bm => decide +kernel); (case sa => k_is); (case eC => k_is); (case tC => k_is); (case kp => k_is); (case ga => k_is); (case gg => k_is); (case hd => k_is); (case hcl => k_is); (case hn => k_is); (case ht => k_is); (case hm => k_is); (case no => k_is); (case rf => first | rfl | k_is); (case ii => k_is); (case it => k_is); (case il => k_is); (case ic => k_is); (case ik => k_is); (case dl => k_is); (case dm => rfl); (case dr => first | rfl | exact ⟨_, rfl⟩)
    (case bd => exact fun _ _ _ _ _ _ _ us its h1 h2 => match us, its, h1, h2 with | [_, _], [_], _, _ => ⟨_, rfl, rfl⟩); (case sc => exact C8.fnScope_by (by decide +kernel)); (case l1 => rfl); (case l2 => rfl); (case n1 => decide); (case n2 => decide); (case by_ => exact ⟨_, _, _, _, rfl⟩)
    refine' CK.with_err KX "TooMany" "value" (L2.inClass (K59.topS 7) 0) (CK.errF_mk KX G "TooMany.__init__" (L2.inClass (K59.topS 7) 0) ?a ?lk ?bm ?sa ?eC ?tC ?kp ?ga ?gg ?hd ?hcl ?hn ?ht ?hm ?no ?rf ?ii ?it ?il ?ic ?ik ?dl ?dm ?dr ?bd ?sc ?l1 ?l2 ?n1 ?n2 ?by_) fun x_TooMany => ?_
    (case a => k_is); (case lk => k_is); (case bm => decide +kernel); (case sa => k_is); (case eC => k_is); (case tC => k_is); (case kp => k_is); (case ga => k_is); (case gg => k_is); (case hd => k_is); (case hcl => k_is); (case hn => k_is); (case ht => k_is); (case hm => k_is); (case no => k_is); (case rf => first | rfl | k_is); (case ii => k_is); (case it => k_is); (case il => k_is); (case ic => k_is); (case ik => k_is); (case dl => k_is); (case dm => rfl); (case dr => first | rfl | exact ⟨_, rfl⟩)
    (case bd => exact fun _ _ _ _ _ _ _ us its h1 h2 => match us, its, h1, h2 with | [_, _], [_], _, _ => ⟨_, rfl, rfl⟩); (case sc => exact C8.fnScope_by (by decide +kernel)); (case l1 => rfl); (case l2 => rfl); (case n1 => decide); (case n2 => decide); (case by_ => exact ⟨_, _, _, _, rfl⟩)
    refine' CK.with_base KX "CountError" (CK.baseE_mk KX G ?ba ?bb ?bc ?bd_) fun x_CountError => ?_
    (case ba => k_is); (case bb => k_is); (case bc => k_is); (case bd_ => k_is)
    refine' CK.with_sub x_InvalidText x_InvalidText.gC true ?z fun s_InvalidText_InvalidText => ?_; (case z => first | rfl | k_is)
    refine' CK.with_sub x_InvalidText x_InvalidNumber.gC false ?z fun s_InvalidText_InvalidNumber => ?_; (case z => first | rfl | k_is)
    refine' CK.with_sub x_InvalidText x_TooMany.gC false ?z fun s_InvalidText_TooMany => ?_; (case z => first | rfl | k_is)
    refine' CK.with_sub x_InvalidText x_CountError.gC true ?z fun s_InvalidText_CountError => ?_; (case z => first | rfl | k_is)
    refine' CK.with_sub x_InvalidNumber x_InvalidText.gC false ?z fun s_InvalidNumber_InvalidText => ?_; (case z => first | rfl | k_is)
    refine' CK.with_sub x_InvalidNumber x_InvalidNumber.gC true ?z fun s_InvalidNumber_InvalidNumber => ?_; (case z => first | rfl | k_is)
    refine' CK.with_sub x_InvalidNumber x_TooMany.gC false ?z fun s_InvalidNumber_TooMany => ?_; (case z => first | rfl | k_is)
    refine' CK.with_sub x_InvalidNumber x_CountError.gC true ?z fun s_InvalidNumber_CountError => ?_; (case z => first | rfl | k_is)
    refine' CK.with_sub x_TooMany x_InvalidText.gC false ?z fun s_TooMany_InvalidText => ?_; (case z => first | rfl | k_is)
    refine' CK.with_sub x_TooMany x_InvalidNumber.gC false ?z fun s_TooMany_InvalidNumber => ?_; (case z => first | rfl | k_is)
    refine' CK.with_sub x_TooMany x_TooMany.gC true ?z fun s_TooMany_TooMany => ?_; (case z => first | rfl | k_is)
    refine' CK.with_sub x_TooMany x_CountError.gC true ?z fun s_TooMany_CountError => ?_; (case z => first | rfl | k_is)
    refine' CK.with_cls KX "OpenText" (CK.clF_mk KX G ?a ?pg ?hd ?po ?sa ?mk ?kp ?ha ?hn ?htk ?hm) fun k_OpenText => ?_
    (case a => k_is); (case pg => k_is); (case hd => k_is); (case po => k_is); (case sa => k_is); (case mk => k_is); (case kp => k_is); (case ha => k_is); (case hn => k_is); (case htk => k_is); (case hm => k_is)
    refine' CK.with_tyc k_OpenText (CK.tyc_mk k_OpenText ?l ?e) fun t_OpenText => ?_
    (case l => k_is); (case e => rfl)
    have f_many : L2.NoAttr _ _ "_many" := CK.noA k_OpenText "_many" (by k_is)
    have f_pieces : L2.NoAttr _ _ "_pieces" := CK.noA k_OpenText "_pieces" (by k_is)
    refine' CK.with_def KX "is_whole" (K59.topS 10) ["value"] (CK.defF_mk KX G ?a ?l ?c ?k fun _ _ _ _ _ _ us hl => match us, hl with | [_], _ => rfl) fun d_is_whole => ?_
    (case a => k_is); (case l => k_is); (case c => k_is); (case k => k_is)
    refine' CK.with_def KX "is_count" (K59.topS 11) ["value"] (CK.defF_mk KX G ?a ?l ?c ?k fun _ _ _ _ _ _ us hl => match us, hl with | [_], _ => rfl) fun d_is_count => ?_
    (case a => k_is); (case l => k_is); (case c => k_is); (case k => k_is)
    refine' CK.with_def KX "is_within" (K59.topS 12) ["value", "low", "high"] (CK.defF_mk KX G ?a ?l ?c ?k fun _ _ _ _ _ _ us hl => match us, hl with | [_, _, _], _ => rfl) fun d_is_within => ?_
    (case a => k_is); (case l => k_is); (case c => k_is); (case k => k_is)
    refine' CK.with_def KX "is_lettered" (K59.topS 13) ["value", "most"] (CK.defF_mk KX G ?a ?l ?c ?k fun _ _ _ _ _ _ us hl => match us, hl with | [_, _], _ => rfl) fun d_is_lettered => ?_
    (case a => k_is); (case l => k_is); (case c => k_is); (case k => k_is)
    refine' CK.with_def KX "need_within" (K59.topS 14) ["value", "low", "high"] (CK.defF_mk KX G ?a ?l ?c ?k fun _ _ _ _ _ _ us hl => match us, hl with | [_, _, _], _ => rfl) fun d_need_within => ?_
    (case a => k_is); (case l => k_is); (case c => k_is); (case k => k_is)
    refine' CK.with_def KX "need_many" (K59.topS 15) ["value"] (CK.defF_mk KX G ?a ?l ?c ?k fun _ _ _ _ _ _ us hl => match us, hl with | [_], _ => rfl) fun d_need_many => ?_
    (case a => k_is); (case l => k_is); (case c => k_is); (case k => k_is)
    refine' CK.with_def KX "is_form_for" (K59.topS 17) ["many", "value"] (CK.defF_mk KX G ?a ?l ?c ?k fun _ _ _ _ _ _ us hl => match us, hl with | [_, _], _ => rfl) fun d_is_form_for => ?_
    (case a => k_is); (case l => k_is); (case c => k_is); (case k => k_is)
    refine' CK.with_def KX "form_value" (K59.topS 18) ["form", "point"] (CK.defF_mk KX G ?a ?l ?c ?k fun _ _ _ _ _ _ us hl => match us, hl with | [_, _], _ => rfl) fun d_form_value => ?_
    (case a => k_is); (case l => k_is); (case c => k_is); (case k => k_is)
    refine' CK.with_def KX "form_sum" (K59.topS 19) ["one", "other"] (CK.defF_mk KX G ?a ?l ?c ?k fun _ _ _ _ _ _ us hl => match us, hl with | [_, _], _ => rfl) fun d_form_sum => ?_
    (case a => k_is); (case l => k_is); (case c => k_is); (case k => k_is)
    refine' CK.with_def KX "form_times" (K59.topS 20) ["number", "form"] (CK.defF_mk KX G ?a ?l ?c ?k fun _ _ _ _ _ _ us hl => match us, hl with | [_, _], _ => rfl) fun d_form_times => ?_
    (case a => k_is); (case l => k_is); (case c => k_is); (case k => k_is)
    refine' CK.with_def KX "turned_word" (K59.topS 22) ["word", "by"] (CK.defF_mk KX G ?a ?l ?c ?k fun _ _ _ _ _ _ us hl => match us, hl with | [_, _], _ => rfl) fun d_turned_word => ?_
    (case a => k_is); (case l => k_is); (case c => k_is); (case k => k_is)
    refine' CK.with_def KX "stretch" (K59.topS 23) ["word", "start", "size"] (CK.defF_mk KX G ?a ?l ?c ?k fun _ _ _ _ _ _ us hl => match us, hl with | [_, _, _], _ => rfl) fun d_stretch => ?_
    (case a => k_is); (case l => k_is); (case c => k_is); (case k => k_is)
    refine' CK.with_def KX "alike_ahead" (K59.topS 24) ["one", "other"] (CK.defF_mk KX G ?a ?l ?c ?k fun _ _ _ _ _ _ us hl => match us, hl with | [_, _], _ => rfl) fun d_alike_ahead => ?_
    (case a => k_is); (case l => k_is); (case c => k_is); (case k => k_is)
    refine' CK.with_def KX "alike_behind" (K59.topS 25) ["one", "other"] (CK.defF_mk KX G ?a ?l ?c ?k fun _ _ _ _ _ _ us hl => match us, hl with | [_, _], _ => rfl) fun d_alike_behind => ?_
    (case a => k_is); (case l => k_is); (case c => k_is); (case k => k_is)
    refine' CK.with_def KX "border_sizes" (K59.topS 26) ["word"] (CK.defF_mk KX G ?a ?l ?c ?k fun _ _ _ _ _ _ us hl => match us, hl with | [_], _ => rfl) fun d_border_sizes => ?_
    (case a => k_is); (case l => k_is); (case c => k_is); (case k => k_is)
    refine' CK.with_def KX "root_size" (K59.topS 27) ["word"] (CK.defF_mk KX G ?a ?l ?c ?k fun _ _ _ _ _ _ us hl => match us, hl with | [_], _ => rfl) fun d_root_size => ?_
    (case a => k_is); (case l => k_is); (case c => k_is); (case k => k_is)
    refine' CK.with_def KX "is_piece" (K59.topS 32) ["many", "value"] (CK.defF_mk KX G ?a ?l ?c ?k fun _ _ _ _ _ _ us hl => match us, hl with | [_, _], _ => rfl) fun d_is_piece => ?_
    (case a => k_is); (case l => k_is); (case c => k_is); (case k => k_is)
    refine' CK.with_def KX "is_open_form" (K59.topS 33) ["form"] (CK.defF_mk KX G ?a ?l ?c ?k fun _ _ _ _ _ _ us hl => match us, hl with | [_], _ => rfl) fun d_is_open_form => ?_
    (case a => k_is); (case l => k_is); (case c => k_is); (case k => k_is)
    refine' CK.with_def KX "is_power" (K59.topS 34) ["piece"] (CK.defF_mk KX G ?a ?l ?c ?k fun _ _ _ _ _ _ us hl => match us, hl with | [_], _ => rfl) fun d_is_power => ?_
    (case a => k_is); (case l => k_is); (case c => k_is); (case k => k_is)
    refine' CK.with_def KX "fixed_piece" (K59.topS 35) ["word", "many"] (CK.defF_mk KX G ?a ?l ?c ?k fun _ _ _ _ _ _ us hl => match us, hl with | [_, _], _ => rfl) fun d_fixed_piece => ?_
    (case a => k_is); (case l => k_is); (case c => k_is); (case k => k_is)
    refine' CK.with_def KX "measure" (K59.topS 36) ["pieces"] (CK.defF_mk KX G ?a ?l ?c ?k fun _ _ _ _ _ _ us hl => match us, hl with | [_], _ => rfl) fun d_measure => ?_
    (case a => k_is); (case l => k_is); (case c => k_is); (case k => k_is)
    refine' CK.with_def KX "normal_pieces" (K59.topS 37) ["pieces"] (CK.defF_mk KX G ?a ?l ?c ?k fun _ _ _ _ _ _ us hl => match us, hl with | [_], _ => rfl) fun d_normal_pieces => ?_
    (case a => k_is); (case l => k_is); (case c => k_is); (case k => k_is)
    refine' CK.with_def KX "put_fixed" (K59.topS 38) ["ready", "word", "many"] (CK.defF_mk KX G ?a ?l ?c ?k fun _ _ _ _ _ _ us hl => match us, hl with | [_, _, _], _ => rfl) fun d_put_fixed => ?_
    (case a => k_is); (case l => k_is); (case c => k_is); (case k => k_is)
    refine' CK.with_def KX "put_power" (K59.topS 39) ["ready", "word", "form"] (CK.defF_mk KX G ?a ?l ?c ?k fun _ _ _ _ _ _ us hl => match us, hl with | [_, _, _], _ => rfl) fun d_put_power => ?_
    (case a => k_is); (case l => k_is); (case c => k_is); (case k => k_is)
    refine' CK.with_def KX "need_pieces" (K59.topS 41) ["many", "pieces"] (CK.defF_mk KX G ?a ?l ?c ?k fun _ _ _ _ _ _ us hl => match us, hl with | [_, _], _ => rfl) fun d_need_pieces => ?_
    (case a => k_is); (case l => k_is); (case c => k_is); (case k => k_is)
    refine' CK.with_def KX "need_measure" (K59.topS 42) ["total"] (CK.defF_mk KX G ?a ?l ?c ?k fun _ _ _ _ _ _ us hl => match us, hl with | [_], _ => rfl) fun d_need_measure => ?_
    (case a => k_is); (case l => k_is); (case c => k_is); (case k => k_is)
    refine' CK.with_def KX "normal" (K59.topS 43) ["many", "pieces"] (CK.defF_mk KX G ?a ?l ?c ?k fun _ _ _ _ _ _ us hl => match us, hl with | [_, _], _ => rfl) fun d_normal => ?_
    (case a => k_is); (case l => k_is); (case c => k_is); (case k => k_is)
    refine' CK.with_met k_OpenText "__init__" "OpenText.__init__" (L2.inClass (K59.topS 45) 0) ["self", "many", "pieces"] (CK.metF_mk k_OpenText _ _ _ _ ?a ?i ?l ?c ?k fun _ _ _ _ _ _ us hl => match us, hl with | [_, _, _], _ => rfl) fun d_OpenText___init__ => ?_
    (case a => k_is); (case i => k_is); (case l => k_is); (case c => k_is); (case k => k_is)
    refine' CK.with_met k_OpenText "__eq__" "OpenText.__eq__" (L2.inClass (K59.topS 45) 1) ["self", "other"] (CK.metF_mk k_OpenText _ _ _ _ ?a ?i ?l ?c ?k fun _ _ _ _ _ _ us hl => match us, hl with | [_, _], _ => rfl) fun d_OpenText___eq__ => ?_
    (case a => k_is); (case i => k_is); (case l => k_is); (case c => k_is); (case k => k_is)
    refine' CK.with_met k_OpenText "many" "OpenText.many" (L2.inClass (K59.topS 45) 2) ["self"] (CK.metF_mk k_OpenText _ _ _ _ ?a ?i ?l ?c ?k fun _ _ _ _ _ _ us hl => match us, hl with | [_], _ => rfl) fun d_OpenText_many => ?_
    (case a => k_is); (case i => k_is); (case l => k_is); (case c => k_is); (case k => k_is)
    refine' CK.with_met k_OpenText "pieces" "OpenText.pieces" (L2.inClass (K59.topS 45) 3) ["self"] (CK.metF_mk k_OpenText _ _ _ _ ?a ?i ?l ?c ?k fun _ _ _ _ _ _ us hl => match us, hl with | [_], _ => rfl) fun d_OpenText_pieces => ?_
    (case a => k_is); (case i => k_is); (case l => k_is); (case c => k_is); (case k => k_is)
    refine' CK.with_def KX "need_text" (K59.topS 46) ["value"] (CK.defF_mk KX G ?a ?l ?c ?k fun _ _ _ _ _ _ us hl => match us, hl with | [_], _ => rfl) fun d_need_text => ?_
    (case a => k_is); (case l => k_is); (case c => k_is); (case k => k_is)
    refine' CK.with_def KX "counted" (K59.topS 47) ["text", "point"] (CK.defF_mk KX G ?a ?l ?c ?k fun _ _ _ _ _ _ us hl => match us, hl with | [_, _], _ => rfl) fun d_counted => ?_
    (case a => k_is); (case l => k_is); (case c => k_is); (case k => k_is)
    refine' CK.with_def KX "need_few_points" (K59.topS 51) ["size", "many"] (CK.defF_mk KX G ?a ?l ?c ?k fun _ _ _ _ _ _ us hl => match us, hl with | [_, _], _ => rfl) fun d_need_few_points => ?_
    (case a => k_is); (case l => k_is); (case c => k_is); (case k => k_is)
    refine' CK.with_def KX "points_below" (K59.topS 52) ["bounds"] (CK.defF_mk KX G ?a ?l ?c ?k fun _ _ _ _ _ _ us hl => match us, hl with | [_], _ => rfl) fun d_points_below => ?_
    (case a => k_is); (case l => k_is); (case c => k_is); (case k => k_is)
    refine' CK.with_defD KX "parts_of" (K59.topS 53) [] [] (CK.defD_mk _ _ _ _ KX G ?a ?l ?c ?k ?dd ?kk) fun d_parts_of => ?_
    (case a => k_is); (case l => k_is); (case c => k_is); (case k => k_is); (case dd => exact CK.dfl_nil); (case kk => exact CK.kwd_nil)
    refine' CK.with_def KX "parts_at" (K59.topS 54) ["text", "number", "point"] (CK.defF_mk KX G ?a ?l ?c ?k fun _ _ _ _ _ _ us hl => match us, hl with | [_, _, _], _ => rfl) fun d_parts_at => ?_
    (case a => k_is); (case l => k_is); (case c => k_is); (case k => k_is)
    refine' CK.with_def KX "_law_hash" (K59.topS 56) ["_law_seed", "_law_index"] (CK.defF_mk KX G ?a ?l ?c ?k fun _ _ _ _ _ _ us hl => match us, hl with | [_, _], _ => rfl) fun d_law_hash => ?_
    (case a => k_is); (case l => k_is); (case c => k_is); (case k => k_is)
    refine' CK.with_def KX "_law_generator" (K59.topS 57) ["_law_script", "_law_index"] (CK.defF_mk KX G ?a ?l ?c ?k fun _ _ _ _ _ _ us hl => match us, hl with | [_, _], _ => rfl) fun d_law_generator => ?_
    (case a => k_is); (case l => k_is); (case c => k_is); (case k => k_is)
    refine' CK.with_def KX "_law_random" (K59.topS 58) ["_law_generator_here", "_law_bound"] (CK.defF_mk KX G ?a ?l ?c ?k fun _ _ _ _ _ _ us hl => match us, hl with | [_, _], _ => rfl) fun d_law_random => ?_
    (case a => k_is); (case l => k_is); (case c => k_is); (case k => k_is)
    refine' CK.with_def KX "_law_word" (K59.topS 59) ["_law_generator_here", "_law_most"] (CK.defF_mk KX G ?a ?l ?c ?k fun _ _ _ _ _ _ us hl => match us, hl with | [_, _], _ => rfl) fun d_law_word => ?_
    (case a => k_is); (case l => k_is); (case c => k_is); (case k => k_is)
    refine' CK.with_def KX "_law_piece" (K59.topS 60) ["_law_generator_here", "_law_base", "_law_many", "_law_great"] (CK.defF_mk KX G ?a ?l ?c ?k fun _ _ _ _ _ _ us hl => match us, hl with | [_, _, _, _], _ => rfl) fun d_law_piece => ?_
    (case a => k_is); (case l => k_is); (case c => k_is); (case k => k_is)
    refine' CK.with_def KX "_law_pieces" (K59.topS 61) ["_law_generator_here", "_law_many", "_law_most", "_law_great"] (CK.defF_mk KX G ?a ?l ?c ?k fun _ _ _ _ _ _ us hl => match us, hl with | [_, _, _, _], _ => rfl) fun d_law_pieces => ?_
    (case a => k_is); (case l => k_is); (case c => k_is); (case k => k_is)
    refine' CK.with_def KX "_law_value" (K59.topS 62) ["_law_form", "_law_point"] (CK.defF_mk KX G ?a ?l ?c ?k fun _ _ _ _ _ _ us hl => match us, hl with | [_, _], _ => rfl) fun d_law_value => ?_
    (case a => k_is); (case l => k_is); (case c => k_is); (case k => k_is)
    refine' CK.with_def KX "_law_points" (K59.topS 64) ["_law_many", "_law_most"] (CK.defF_mk KX G ?a ?l ?c ?k fun _ _ _ _ _ _ us hl => match us, hl with | [_, _], _ => rfl) fun d_law_points => ?_
    (case a => k_is); (case l => k_is); (case c => k_is); (case k => k_is)
    refine' CK.with_def KX "_law_parts" (K59.topS 65) ["_law_pieces_here", "_law_point", "_law_letters"] (CK.defF_mk KX G ?a ?l ?c ?k fun _ _ _ _ _ _ us hl => match us, hl with | [_, _, _], _ => rfl) fun d_law_parts => ?_
    (case a => k_is); (case l => k_is); (case c => k_is); (case k => k_is)
    refine' CK.with_def KX "_law_due" (K59.topS 66) ["_law_pieces_here", "_law_many", "_law_letters"] (CK.defF_mk KX G ?a ?l ?c ?k fun _ _ _ _ _ _ us hl => match us, hl with | [_, _, _], _ => rfl) fun d_law_due => ?_
    (case a => k_is); (case l => k_is); (case c => k_is); (case k => k_is)
    refine' CK.with_def KX "_law_laced" (K59.topS 67) ["_law_generator_here", "_law_many", "_law_pieces_here"] (CK.defF_mk KX G ?a ?l ?c ?k fun _ _ _ _ _ _ us hl => match us, hl with | [_, _, _], _ => rfl) fun d_law_laced => ?_
    (case a => k_is); (case l => k_is); (case c => k_is); (case k => k_is)
    refine' CK.with_def KX "_law_good" (K59.topS 68) ["_law_generator_here", "_law_many", "_law_pieces_here", "_law_letters"] (CK.defF_mk KX G ?a ?l ?c ?k fun _ _ _ _ _ _ us hl => match us, hl with | [_, _, _, _], _ => rfl) fun d_law_good => ?_
    (case a => k_is); (case l => k_is); (case c => k_is); (case k => k_is)
    refine' CK.with_def KX "_law_caught" (K59.topS 69) ["_law_text", "_law_number"] (CK.defF_mk KX G ?a ?l ?c ?k fun _ _ _ _ _ _ us hl => match us, hl with | [_, _], _ => rfl) fun d_law_caught => ?_
    (case a => k_is); (case l => k_is); (case c => k_is); (case k => k_is)
    refine' CK.with_def KX "law" (K59.topS 70) ["_law_script"] (CK.defF_mk KX G ?a ?l ?c ?k fun _ _ _ _ _ _ us hl => match us, hl with | [_], _ => rfl) fun d_law => ?_
    (case a => k_is); (case l => k_is); (case c => k_is); (case k => k_is)
    have m_all : mg "all" = none := by
      refine' PySem.W.mg_none_of KX G ?z
      (case z => k_is)
    have m_any : mg "any" = none := by
      refine' PySem.W.mg_none_of KX G ?z
      (case z => k_is)
    have m_bool : mg "bool" = none := by
      refine' PySem.W.mg_none_of KX G ?z
      (case z => k_is)
    have m_int : mg "int" = none := by
      refine' PySem.W.mg_none_of KX G ?z
      (case z => k_is)
    have m_isinstance : mg "isinstance" = none := by
      refine' PySem.W.mg_none_of KX G ?z
      (case z => k_is)
    have m_len : mg "len" = none := by
      refine' PySem.W.mg_none_of KX G ?z
      (case z => k_is)
    have m_list : mg "list" = none := by
      refine' PySem.W.mg_none_of KX G ?z
      (case z => k_is)
    have m_max : mg "max" = none := by
      refine' PySem.W.mg_none_of KX G ?z
      (case z => k_is)
    have m_min : mg "min" = none := by
      refine' PySem.W.mg_none_of KX G ?z
      (case z => k_is)
    have m_range : mg "range" = none := by
      refine' PySem.W.mg_none_of KX G ?z
      (case z => k_is)
    have m_repr : mg "repr" = none := by
      refine' PySem.W.mg_none_of KX G ?z
      (case z => k_is)
    have m_sorted : mg "sorted" = none := by
      refine' PySem.W.mg_none_of KX G ?z
      (case z => k_is)
    have m_str : mg "str" = none := by
      refine' PySem.W.mg_none_of KX G ?z
      (case z => k_is)
    have m_sum : mg "sum" = none := by
      refine' PySem.W.mg_none_of KX G ?z
      (case z => k_is)
    have m_tuple : mg "tuple" = none := by
      refine' PySem.W.mg_none_of KX G ?z
      (case z => k_is)
    have m_zip : mg "zip" = none := by
      refine' PySem.W.mg_none_of KX G ?z
      (case z => k_is)
    have k_MOST_MEASURE : ∃ u, mg "MOST_MEASURE" = some u ∧ L2.RelV (.int 2000) u := by
      refine' ⟨?u_MOST_MEASURE, PySem.W.mg_of KX G ?z_MOST_MEASURE, ?r_MOST_MEASURE⟩
      (case z_MOST_MEASURE => k_is)
      all_goals exact ⟨_, rfl⟩
    have k_MOST_PART_LETTERS : ∃ u, mg "MOST_PART_LETTERS" = some u ∧ L2.RelV (.int 40) u := by
      refine' ⟨?u_MOST_PART_LETTERS, PySem.W.mg_of KX G ?z_MOST_PART_LETTERS, ?r_MOST_PART_LETTERS⟩
      (case z_MOST_PART_LETTERS => k_is)
      all_goals exact ⟨_, rfl⟩
    have k_MOST_PIECES : ∃ u, mg "MOST_PIECES" = some u ∧ L2.RelV (.int 5000) u := by
      refine' ⟨?u_MOST_PIECES, PySem.W.mg_of KX G ?z_MOST_PIECES, ?r_MOST_PIECES⟩
      (case z_MOST_PIECES => k_is)
      all_goals exact ⟨_, rfl⟩
    have k_MOST_PIECE_LETTERS : ∃ u, mg "MOST_PIECE_LETTERS" = some u ∧ L2.RelV (.int 2000) u := by
      refine' ⟨?u_MOST_PIECE_LETTERS, PySem.W.mg_of KX G ?z_MOST_PIECE_LETTERS, ?r_MOST_PIECE_LETTERS⟩
      (case z_MOST_PIECE_LETTERS => k_is)
      all_goals exact ⟨_, rfl⟩
    have k_MOST_POINTS : ∃ u, mg "MOST_POINTS" = some u ∧ L2.RelV (.int 600) u := by
      refine' ⟨?u_MOST_POINTS, PySem.W.mg_of KX G ?z_MOST_POINTS, ?r_MOST_POINTS⟩
      (case z_MOST_POINTS => k_is)
      all_goals exact ⟨_, rfl⟩
    have k_MOST_UNKNOWNS : ∃ u, mg "MOST_UNKNOWNS" = some u ∧ L2.RelV (.int 3) u := by
      refine' ⟨?u_MOST_UNKNOWNS, PySem.W.mg_of KX G ?z_MOST_UNKNOWNS, ?r_MOST_UNKNOWNS⟩
      (case z_MOST_UNKNOWNS => k_is)
      all_goals exact ⟨_, rfl⟩
    have T : K59.Txt _ mg _ _ _ _ _ := ⟨x_InvalidText, x_InvalidNumber, x_TooMany, x_CountError, s_InvalidText_InvalidText, s_InvalidText_InvalidNumber, s_InvalidText_TooMany, s_InvalidText_CountError, s_InvalidNumber_InvalidText, s_InvalidNumber_InvalidNumber, s_InvalidNumber_TooMany, s_InvalidNumber_CountError, s_TooMany_InvalidText, s_TooMany_InvalidNumber, s_TooMany_TooMany, s_TooMany_CountError, k_OpenText, t_OpenText, f_many, f_pieces, d_is_whole, d_is_count, d_is_within, d_is_lettered, d_need_within, d_need_many, d_is_form_for, d_form_value, d_form_sum, d_form_times, d_turned_word, d_stretch, d_alike_ahead, d_alike_behind, d_border_sizes, d_root_size, d_is_piece, d_is_open_form, d_is_power, d_fixed_piece, d_measure, d_normal_pieces, d_put_fixed, d_put_power, d_need_pieces, d_need_measure, d_normal, d_OpenText___init__, d_OpenText___eq__, d_OpenText_many, d_OpenText_pieces, d_need_text, d_counted, d_need_few_points, d_points_below, d_parts_of, d_parts_at, d_law_hash, d_law_generator, d_law_random, d_law_word, d_law_piece, d_law_pieces, d_law_value, d_law_points, d_law_parts, d_law_due, d_law_laced, d_law_good, d_law_caught, d_law, m_all, m_any, m_bool, m_int, m_isinstance, m_len, m_list, m_max, m_min, m_range, m_repr, m_sorted, m_str, m_sum, m_tuple, m_zip, k_MOST_MEASURE, k_MOST_PART_LETTERS, k_MOST_PIECES, k_MOST_PIECE_LETTERS, k_MOST_POINTS, k_MOST_UNKNOWNS⟩
    exact K59.law_end T hmg
