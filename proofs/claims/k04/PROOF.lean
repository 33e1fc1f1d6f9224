import PyProof.Rows.All
import Wide.All
import OpenK.AllK
import Wide.FinOn
import HandS.ForMost
import HandS.Wide
import HandS.WideBits
import HandS.TupAny
import HandS.TupMul
import HandS.IsInst
import HandS.Walk
import HandS.Style
import KE.GoesZip
import KE.GoesMore
import KE.GoesEnum
import HandS.Codes
import HandS.FStrTup
import PyProof.ListMulRoad
import PyProof.FactsAll.tuple_2
import PyProof.ReprLoop
import PyProof.ReprHeadsTuple
import PyProof.StrHeap
import PyProof.CallStr
import HandS.StrMore
import HandS.SortInts
import PyProof.Rows.StrRev
import PyProof.StrOps2
import KE.DataAny
import PyProof.ReprRoads
import HandS.Ends
import HandS.SortKw
import KE.SortData
import HandS.More
import KE.SortKeyHeap
import PyProof.MinMaxWalk
import PyProof.WalkInts
import KE.KMinKey
import PyProof.Rows.RuleB_mul
import HandS.Conv
import PySem.Challenge.RW_countscribe_k04_whole_one_text_in_many_s
set_option Elab.async false
set_option linter.all false
set_option maxRecDepth 100000
set_option maxHeartbeats 2000000
/-! rules that the layer lacks: a power of great numbers, zip over a list and a tuple in any mix -/
namespace CK
open PySem PySem.Spec PyProof.Rows L2

section
variable {X : Cx}
theorem op_powB : OpR X (binaryOp .Pow) (rI (fun i j => 0 ≤ j ∧ (Builtin.Int.intBits i : Int) * j ≤ 2 ^ 27) fun i j => .int (i ^ j.toNat)) :=
  opI fun _ _ _ _ _ _ _ c q => pow_int c.1 c.2 q
end

/-- a list, or a tuple -/
inductive Kd | L | T
def SqB (K : PySem.W.Frag) : Kd → Hp → Addr → List V → Prop
  | .L, H, a, xs => SqL K H a xs
  | .T, H, a, xs => SqT K H a xs
def HasB : Kd → Heap → Addr → Array Value → Prop
  | .L, h, a, xs => h.IsList a xs
  | .T, h, a, xs => h.IsTuple a xs
def IterB : Kd → Heap → Addr → Addr → Nat → Prop
  | .L, h, it, a, i => h.IsListIter it a i
  | .T, h, it, a, i => h.IsTupleIter it a i
def objB : Kd → Addr → Obj
  | .L, a => { cls := .type "list_iterator", data := .fields #[.ref a, .int 0 0] }
  | .T, a => { cls := .type "tuple_iterator", data := .fields #[.ref a, .int 0 0] }
theorem drawsB (k : Kd) {prog : Program} {w : World} {A : Around} (hh : A.handled = none) (it t : Addr) (ne : t ≠ it) (zs : Array Value) :
    Draws prog w A it [it, t] zs.size (fun i v => zs[i]? = some v) (fun i h => IterB k h it t i ∧ HasB k h t zs) := by
  cases k with
  | L => exact Draws.list hh it t ne zs
  | T => exact Draws.tuple hh it t ne zs
theorem beginsB (k : Kd) (t : Addr) (zs : Array Value) : Begins (.ref t) (objB k t) fun h => HasB k h t zs := by
  cases k with
  | L => exact begins_list t zs
  | T => exact begins_tuple t zs
theorem IterB.at {k : Kd} {h h' : Heap} {it a : Addr} {i : Nat} (x : IterB k h it a i) (e : ∀ o, h.get? it = some o → h'.get? it = some o) : IterB k h' it a i := by
  cases k with
  | L => exact Heap.IsListIter.at x e
  | T => exact Heap.IsTupleIter.at x e
theorem IterB.there {k : Kd} {h : Heap} {it a : Addr} {i : Nat} (x : IterB k h it a i) : ∃ o, h.get? it = some o ∧ ∀ v, o.data ≠ .cell v := by
  cases k with
  | L =>
    obtain ⟨o, e, _, d⟩ := x
    exact ⟨o, e, fun v z => by rw [d] at z; cases z⟩
  | T =>
    obtain ⟨o, e, _, d⟩ := x
    exact ⟨o, e, fun v z => by rw [d] at z; cases z⟩
theorem IterB.new {k : Kd} {h : Heap} {it a : Addr} (e : h.get? it = some (objB k a)) : IterB k h it a 0 := by
  cases k with
  | L => exact ⟨_, e, rfl, rfl⟩
  | T => exact ⟨_, e, rfl, rfl⟩
theorem SqB.get {X : Cx} {pins : List (Addr × Obj)} {σ : L2.St} {H : Hp} {s : Shared} {k : Kd} {a : Addr} {xs : List V} (I : Inv X pins σ H s) (h : SqB X.K k H a xs) :
    ∃ zs : List Value, Vals xs zs ∧ HasB k s.heap a zs.toArray ∧ a < s.heap.objs.size := by
  cases k with
  | L =>
    obtain ⟨zs, r, p, _⟩ := I.list h
    exact ⟨zs, r, p.isList, p.lt⟩
  | T =>
    obtain ⟨zs, r, p, _⟩ := I.tuple h
    exact ⟨zs, r, p, p.lt⟩
theorem SqB.inj {X : Cx} {pins : List (Addr × Obj)} {σ : L2.St} {H : Hp} {s : Shared} {k : Kd} {a : Addr} {xs ys : List V} (I : Inv X pins σ H s) (h : SqB X.K k H a xs) (h' : SqB X.K k H a ys) : xs = ys := by
  cases k with
  | L => exact I.list_inj h h'
  | T => exact I.tuple_inj h h'

/-- both as they stand at each turn, the items in new pairs -/
def ItB (K : PySem.W.Frag) (k k' : Kd) (a b : Addr) : It :=
  ⟨fun i H => ∃ (xs ys : List V) (x y : V), SqB K k H a xs ∧ SqB K k' H b ys ∧ xs[i]? = some x ∧ ys[i]? = some y,
    fun i H v H' => ∃ T x y, v = .ref T ∧ H T = none ∧ H' = upd H T (.tup [x, y]) ∧ (∀ xs, SqB K k H a xs → xs[i]? = some x) ∧ ∀ ys, SqB K k' H b ys → ys[i]? = some y,
    fun i H => ∃ xs ys : List V, SqB K k H a xs ∧ SqB K k' H b ys ∧ i ≤ xs.length ∧ i ≤ ys.length ∧ (i = xs.length ∨ i = ys.length)⟩
theorem five {z TI TO i1 i2 c : Addr} (h : c ∈ [z, TI, TO, i1, i2]) : c = z ∨ c = TI ∨ c = TO ∨ c = i1 ∨ c = i2 := by simpa using h
theorem turnB {P : Program} {w : World} {K : PySem.W.Frag} {elts : List Expr} {kk : Nat} {tp : Pos} {k k' : Kd} {a b z TI TO i1 i2 : Addr} (S : ZipSep2 z TI TO i1 i2 [i1, a] [i2, b]) (na : a ≠ i1) (nb : b ≠ i2) :
    Turn P w K (.Tuple elts kk tp) (ItB K k k' a b) [z, TI, TO, i1, i2] z
      (fun i h => IsZip h z TI TO .none ∧ IsTupOf2 h TI (.ref i1) (.ref i2) ∧ (∃ x y, IsTupOf2 h TO x y) ∧ IterB k h i1 a i ∧ IterB k' h i2 b i) where
  mem := by simp
  obj := fun i h st c hc => by
    obtain ⟨hz, hI, ⟨x, y, hO⟩, h1, h2⟩ := st
    rcases five hc with q | q | q | q | q <;> subst q
    · exact ⟨_, hz, fun v q => nomatch q⟩
    · exact ⟨_, hI, fun v q => nomatch q⟩
    · exact ⟨_, hO, fun v q => nomatch q⟩
    · exact h1.there
    · exact h2.there
  keep := fun i h h' st q => by
    obtain ⟨hz, hI, ⟨x, y, hO⟩, h1, h2⟩ := st
    exact ⟨q z (by simp) _ hz, q TI (by simp) _ hI, ⟨x, y, q TO (by simp) _ hO⟩, h1.at (q i1 (by simp)), h2.at (q i2 (by simp))⟩
  item := by
    intro X hP hw hK hc i pins s σ H E I hf st hg
    subst hP hw hK
    obtain ⟨hz, hI, ⟨x0, y0, hO⟩, h1, h2⟩ := st
    obtain ⟨xs, ys, x, y, qx, qy, hx, hy⟩ := hg
    obtain ⟨zs, r1, p1, la⟩ := SqB.get I qx
    obtain ⟨zs', r2, p2, lb⟩ := SqB.get I qy
    obtain ⟨u, hu, ru⟩ := r1.get hx
    obtain ⟨u2, hu2, ru2⟩ := r2.get hy
    have z0 : z < s.heap.objs.size := Heap.lt_size hz
    have l1 : i < zs.toArray.size := by
      obtain ⟨q, _⟩ := List.getElem?_eq_some_iff.mp hu
      simpa using q
    have l2 : i < zs'.toArray.size := by
      obtain ⟨q, _⟩ := List.getElem?_eq_some_iff.mp hu2
      simpa using q
    have hh : X.A.in1.handled = none := I.ok.hd hc
    refine wpAny_pyNext_zipD2_item S (drawsB k hh i1 a na zs.toArray) (drawsB k' hh i2 b nb zs'.toArray) hz hI hO ⟨h1, p1⟩ ⟨h2, p2⟩ l1 l2 fun x1 x2 h' tk e1 e2 z' TO' t1 t2 hT hsz hk => ?_
    have e1' : x1 = u := by
      have q : zs[i]? = some x1 := by simpa using e1
      exact Option.some.inj (q.symm.trans hu)
    have e2' : x2 = u2 := by
      have q : zs'[i]? = some x2 := by simpa using e2
      exact Option.some.inj (q.symm.trans hu2)
    subst e1' e2'
    refine ⟨_, rfl, wpAny_letOwnedTupleGo_zip (s := { s with heap := h', toks := tk }) z' fun h'' z'' sb => ?_⟩
    have hT2 : h''.get? s.heap.objs.size = some { cls := .type "tuple", data := .seq #[x1, x2] } := (sb.2 _ (Nat.ne_of_gt z0)).trans hT
    have new : ObjOk X.prog X.w (upd H s.heap.objs.size (.tup [x, y])) h'' s.heap.objs.size (.tup [x, y]) :=
      ⟨by show 2 ≤ sizeLine; decide, [x1, x2], .cons ru (.cons ru2 .nil), ⟨_, hT2, rfl, _, rfl⟩⟩
    have I1 : Inv X pins σ (upd H s.heap.objs.size (.tup [x, y])) { s with heap := h'', toks := tk } :=
      I.turnedNew (ch := [z, TI, TO, i1, i2]) (fun c o hb q => by
        have n : c ≠ z ∧ c ≠ TI ∧ c ≠ TO ∧ c ≠ i1 ∧ c ≠ i2 := by simpa using hb
        exact (sb.2 c n.1).trans (hk c o n.1 n.2.2.1 n.2.2.2.1 n.2.2.2.2 q)) hf (Nat.le_refl _) new
    refine ⟨.ref s.heap.objs.size, _, I1, rfl, ⟨_, x, y, rfl, I.hok.fresh (Nat.le_refl _), rfl, fun l hl => by rw [SqB.inj I hl qx]; exact hx, fun l hl => by rw [SqB.inj I hl qy]; exact hy⟩, ⟨z'', ?_, ⟨x1, x2, ?_⟩, ?_, ?_⟩, fun c hcm => ?_⟩
    · exact (sb.2 _ S.TIz).trans (hk _ _ S.TIz S.TITO S.TIi1 S.TIi2 hI)
    · exact (sb.2 _ S.TOz).trans TO'
    · exact t1.1.at fun o q => (sb.2 _ S.zi1.symm).trans q
    · exact t2.1.at fun o q => (sb.2 _ S.zi2.symm).trans q
    · have lt : c < s.heap.objs.size := by
        rcases five hcm with q | q | q | q | q <;> subst q
        · exact z0
        · exact Heap.lt_size hI
        · exact Heap.lt_size hO
        · obtain ⟨_, e, _⟩ := h1.there
          exact Heap.lt_size e
        · obtain ⟨_, e, _⟩ := h2.there
          exact Heap.lt_size e
      rw [upd_ne (Nat.ne_of_lt lt)]
      exact (hf c hcm).1
  done := by
    intro X hP hw hK hc i pins s σ H E I hf st hg
    subst hP hw hK
    obtain ⟨hz, hI, ⟨x0, y0, hO⟩, h1, h2⟩ := st
    obtain ⟨xs, ys, qx, qy, m1, m2, hend⟩ := hg
    obtain ⟨zs, r1, p1, la⟩ := SqB.get I qx
    obtain ⟨zs', r2, p2, lb⟩ := SqB.get I qy
    have e1 : zs.toArray.size = xs.length := by rw [List.size_toArray]; exact r1.length.symm
    have e2 : zs'.toArray.size = ys.length := by rw [List.size_toArray]; exact r2.length.symm
    have hh : X.A.in1.handled = none := I.ok.hd hc
    exact wpAny_pyNext_zipD2_end S (drawsB k hh i1 a na zs.toArray) (drawsB k' hh i2 b nb zs'.toArray) hz hI hO ⟨h1, p1⟩ ⟨h2, p2⟩ (by omega) (by omega) (by omega) fun h' tk hk =>
      ⟨rfl, I.turnedL (ch := [z, TI, TO, i1, i2]) (fun c o hb q => by
        have n : c ≠ z ∧ c ≠ TI ∧ c ≠ TO ∧ c ≠ i1 ∧ c ≠ i2 := by simpa using hb
        exact hk c o n.1 n.2.2.1 n.2.2.2.1 n.2.2.2.2 q) hf⟩
  self := fun A i s Q E st h => wpAny_pyIter_zip st.1 h

def iZipB (K : PySem.W.Frag) (ta : TA) : TI := fun σ H R => ta σ H fun vs H1 => ∃ (k k' : Kd) (a b : Addr) (xs ys : List V), vs = [.ref a, .ref b] ∧ SqB K k H1 a xs ∧ SqB K k' H1 b ys ∧ R (ItB K k k' a b) H1
theorem pi_zipB {X : Cx} {K : PySem.W.Frag} {e e2 : Expr} {ta : TA} {p pos tp : Pos} {elts : List Expr} {kk : Nat} (hK : X.K = K) (hg : Gl X "zip") (hm : X.mg "zip" = none) (ha : PA X [e, e2] ta)
    (hs : starEach [e, e2] X.env = (false, eval e X.env) :: starEach [e2] X.env := by rfl) (hpl : (backTo pos (starEach [e2] X.env)).any (·.1) = false := by rfl) :
    PI X (.Tuple elts kk tp) (.Call (.Name "zip" p) [e, e2] [] pos) (iZipB K ta) := by
  subst hK
  refine ⟨fun pins s σ H R I h => Call_ (ld_blt I hg hm PyProof.Rows.boot_zip (callWith_type1 (thn (ha.run pos pins s σ H _ I h) fun us s1 q => ?_) hs hpl))⟩
  obtain ⟨vs, H1, I1, r1, k, k', a, b, xs, ys, rfl, qx, qy, q⟩ := q
  cases r1 with
  | cons r rr =>
  cases rr with
  | cons r' rr =>
  cases rr
  cases r
  cases r'
  obtain ⟨zs, _, p1, la⟩ := SqB.get I1 qx
  obtain ⟨zs', _, p2, lb⟩ := SqB.get I1 qy
  refine zip_begins2 (beginsB k a zs.toArray) (beginsB k' b zs'.toArray) p1 p2 fun h' hz hI hO o1 o2 hsz hk => wpAny_pyIter_zip hz ?_
  have S := zip_sep2 (N := s1.heap.objs.size) (fp1 := [a]) (fp2 := [b]) (fun c hc => by rw [List.mem_singleton.mp hc]; exact la) (fun c hc => by rw [List.mem_singleton.mp hc]; exact lb)
  refine ⟨s1.heap.objs.size + 4, _, _, _, H1, rfl, I1.kept (t' := s1.toks) hk, turnB S (Nat.ne_of_lt la) (Nat.ne_of_lt (Nat.lt_succ_of_lt lb)), ⟨hz, hI, ⟨_, _, hO⟩, .new o1, .new o2⟩, fun c hc => ?_, q⟩
  have le : s1.heap.objs.size ≤ c := by
    rcases five hc with z | z | z | z | z <;> subst z <;> first | exact Nat.le_add_right _ _ | exact Nat.le_refl _
  exact I1.fpOk le (I1.hok.fresh le)
theorem walkB {K : PySem.W.Frag} {k k' : Kd} {a b : Addr} {xs ys : List V} (hl : xs.length = ys.length) :
    Walk (ItB K k k' a b) xs.length (fun H => SqB K k H a xs ∧ SqB K k' H b ys) (YPair (fun i => xs[i]?) (fun i => ys[i]?)) := by
  refine ⟨fun i H hi q => ?_, fun H q => ⟨xs, ys, q.1, q.2, Nat.le_refl _, Nat.le_of_eq hl, .inl rfl⟩, fun i H v H' _ q y => ?_⟩
  · have h2 : i < ys.length := by omega
    exact ⟨xs, ys, xs[i], ys[i], q.1, q.2, by simp [hi], by simp [h2]⟩
  · obtain ⟨T, x, z, h1, h2, h3, h4, h5⟩ := y
    exact ⟨T, x, z, h1, h2, h3, h4 xs q.1, h5 ys q.2⟩
end CK

set_option Elab.async false
set_option linter.all false
set_option maxRecDepth 100000
set_option maxHeartbeats 4000000
namespace CK
open PySem PySem.Spec PyProof.Rows L2
theorem mulFill : fillsNumberSlot (.type "tuple") "mul" = pure false :=
  PySem.fillsNumberSlot_seq (r := some (.builtin "tuple.__rmul__")) (id := "tuple.__mul__") PySem.F.slot_tuple_mul.lookup (by decide +kernel)
    PySem.F.slot_tuple_rmul.lookup (by decide +kernel)
theorem mulSeq : seqRepeat? (.type "tuple") = pure (some (.builtin "tuple.__mul__")) := by
  unfold seqRepeat?
  rw [PySem.seqSlot_of (name := "__mul__") (id := "tuple.__mul__") (T := "tuple") PySem.F.slot_tuple_mul.lookup (by decide +kernel),
    PySem.seqSlot_of (name := "__rmul__") (id := "tuple.__rmul__") (T := "tuple") PySem.F.slot_tuple_rmul.lookup (by decide +kernel)]
  rfl
theorem rmulNo (a : Int) (t : Tok) (l : Addr) (zs : Array Value) (n : Nat) (dd : Option Addr) (sl : Array (Option Value)) :
    Meets (Builtin.«int.__rmul__» ⟨[.int a t, .ref l], []⟩) (fun _ R s =>
      s.heap.get? l = some { cls := .type "tuple", dict := dd, data := .seq zs n, slots := sl } ∧ R (.ok (.ret Value.notImplemented)) s) := by
  refine Meets.of_wp fun prog w A R s h => ?_
  obtain ⟨hq, g, d, tk, o2⟩ := s
  obtain ⟨hl, h⟩ := h
  wp_walk using wpAny_loadPart' hl
  exact ⟨_, rfl, h⟩
/-- one item, no times: a new empty tuple -/
theorem mul0 (l : Addr) (v : Value) (n : Nat) (dd : Option Addr) (sl : Array (Option Value)) (u : Tok) :
    Meets (Builtin.«tuple.__mul__» ⟨[.ref l, .int 0 u], []⟩) (fun _ R s =>
      s.heap.get? l = some { cls := .type "tuple", dict := dd, data := .seq #[v] n, slots := sl } ∧
      R (.ok (.ret (Value.ref s.heap.objs.size))) { s with heap := s.heap.push { cls := Value.type "tuple", data := Data.seq #[] } }) := by
  refine Meets.of_wp fun prog w A R s h => ?_
  obtain ⟨hq, g, d, tk, o2⟩ := s
  obtain ⟨hl, h⟩ := h
  have f1 := AutoSeq1.idx_int
  wp_walk using wpAny_loadPart' hl
  exact ⟨_, rfl, h⟩
/-- one item, once: the tuple itself -/
theorem mul1 (l : Addr) (v : Value) (n : Nat) (dd : Option Addr) (sl : Array (Option Value)) (u : Tok) :
    Meets (Builtin.«tuple.__mul__» ⟨[.ref l, .int 1 u], []⟩) (fun _ R s =>
      s.heap.get? l = some { cls := .type "tuple", dict := dd, data := .seq #[v] n, slots := sl } ∧ R (.ok (.ret (Value.ref l))) s) := by
  refine Meets.of_wp fun prog w A R s h => ?_
  obtain ⟨hq, g, d, tk, o2⟩ := s
  obtain ⟨hl, h⟩ := h
  have f1 := AutoSeq1.idx_int
  have f2 : (⟨hq, g, d, tk, o2⟩ : Shared).TypeIs (.ref l) "tuple" := ⟨_, hl, rfl⟩
  wp_walk using wpAny_loadPart' hl, wpAny_typeOf f2
  exact ⟨_, rfl, h⟩
section
variable {X : Cx}
theorem sameNew {H : Hp} {p : Addr} {o : HO} (h : H p = none) : Same H (upd H p o) := fun b z e => by
  rw [upd_ne (ne_of_none e h)]
  exact e
/-- one item, k times: 0 or 1 -/
def rRep01 : R2 := fun x y H Q => ∃ (l : Addr) (k : Int) (v : V), x = .ref l ∧ y = .int k ∧ H l = some (.tup [v]) ∧ (k = 0 ∨ k = 1) ∧
  ∀ p H', Same H H' → H' p = some (.tup (List.replicate k.toNat v)) → Q (.ref p) H'
theorem op_rep01 : OpR X (binaryOp .Mult) rRep01 := by
  intro pins s σ H x y xv yv Q I rx ry h
  obtain ⟨l, k, v, rfl, rfl, hl, hk, q⟩ := h
  cases rx
  obtain ⟨t, rfl⟩ := ry
  obtain ⟨zs, r, ⟨⟨cl, dd, da, sl⟩, ho, hc, n, hd⟩, hs⟩ := I.tuple (.inl (.inl hl) : SqT X.K H l [v])
  simp only at hc hd
  subst hc hd
  cases r with
  | cons r1 r2 =>
  cases r2
  rename_i u
  rcases hk with e | e <;> subst e
  · refine wpAny_binaryOp_repeat_ref (T := "tuple") (U := "int") (by decide) ⟨_, ho, rfl⟩ (fun s' => typeIs_int s' 0 t) mulFill F.fills_int_mul F.slot_int_rmul mulSeq F.slot_int_index.lookup
      (call_meets F.slot_int_rmul (typeIs_int s 0 t) F.entry_int_rmul (F.args_int_rmul_2 _ _) (rmulNo 0 t l _ n dd sl)
        ⟨ho, rfl, ⟨_, ho, rfl⟩, call_meets F.slot_tuple_mul ⟨_, ho, rfl⟩ F.entry_tuple_mul (F.args_tuple_mul_2 _ _) (mul0 l _ n dd sl t) ⟨ho, ?_⟩⟩)
    have hn : H s.heap.objs.size = none := I.hok.fresh (Nat.le_refl _)
    refine ⟨.ref s.heap.objs.size, _, I.laid (t' := s.toks) (o := .tup []) (fun b ob q => Heap.get?_push_of_some _ q) (Nat.le_refl _) ?_, rfl, q _ _ (sameNew hn) upd_same⟩
    exact ⟨Nat.zero_le _, [], .nil, IsTup.new _ _⟩
  · exact wpAny_binaryOp_repeat_ref (T := "tuple") (U := "int") (by decide) ⟨_, ho, rfl⟩ (fun s' => typeIs_int s' 1 t) mulFill F.fills_int_mul F.slot_int_rmul mulSeq F.slot_int_index.lookup
      (call_meets F.slot_int_rmul (typeIs_int s 1 t) F.entry_int_rmul (F.args_int_rmul_2 _ _) (rmulNo 1 t l _ n dd sl)
        ⟨ho, rfl, ⟨_, ho, rfl⟩, call_meets F.slot_tuple_mul ⟨_, ho, rfl⟩ F.entry_tuple_mul (F.args_tuple_mul_2 _ _) (mul1 l _ n dd sl t)
          ⟨ho, ⟨.ref l, H, I, rfl, q l H (Same.refl H) hl⟩⟩⟩)
/-! ### str(tuple of whole numbers): some text -/
theorem reprInts {prog : Program} {w : World} : ∀ {ns : List Int} {zs : List Value}, Vals (ns.map V.int) zs → (∀ n ∈ ns, n.natAbs.log2 < 1920) → ReprAll prog w zs (ns.map fun n => (toString n : Str))
  | [], _, r, _ => by
    cases r
    exact .nil
  | n :: l, _, r, h => by
    cases r with
    | cons r1 r2 =>
    obtain ⟨t, rfl⟩ := r1
    exact .cons (ReprIs.int t (h n List.mem_cons_self)) (reprInts r2 fun z hz => h z (List.mem_cons_of_mem _ hz))
end
end CK
namespace CK
open PySem PySem.Spec PyProof.Rows L2
section
variable {X : Cx}
/-- one item, k times -/
def rRepOne (K : PySem.W.Frag) : R2 := fun x y H Q => ∃ (l : Addr) (k : Int) (v : V), x = .ref l ∧ y = .int k ∧ H l = some (.tup [v]) ∧ 0 ≤ k ∧ k ≤ 1000 ∧
  ∀ p H', Same H H' → H' p = some (.tup (List.replicate k.toNat v)) → Q (.ref p) H'
theorem flat_rep {α : Type} (v : α) : ∀ n : Nat, (List.replicate n [v]).flatten = List.replicate n v
  | 0 => rfl
  | n + 1 => by rw [List.replicate_succ, List.flatten_cons, flat_rep v n, List.replicate_succ]; rfl
theorem op_repOne : OpR X (binaryOp .Mult) (rRepOne X.K) := by
  intro pins s σ H x y xv yv Q I rx ry h
  obtain ⟨l, k, v, rfl, rfl, hl, h0, h1, q⟩ := h
  by_cases hk : k = 0 ∨ k = 1
  · exact op_rep01 pins s σ H _ _ xv yv Q I rx ry ⟨l, k, v, rfl, rfl, hl, hk, q⟩
  · refine op_repT pins s σ H _ _ xv yv Q I rx ry ⟨l, k, [v], rfl, rfl, .inl (.inl hl), List.cons_ne_nil _ _, by omega, h1, by show 1 ≤ 1000; omega, fun p hp => q p _ (sameNew hp) ?_⟩
    rw [upd_same, flat_rep]
/-- str of a tuple of whole numbers: some text -/
theorem call_str_tup {k : Nat} (hr : Room k X.A) : CallR X (.type "str") (fun xs H Q => ∃ (a : Addr) (ns : List Int), xs = [.ref a] ∧ H a = some (.tup (ns.map V.int)) ∧ ns.length ≤ 100 ∧ (∀ n ∈ ns, n.natAbs.log2 < 1920) ∧ ∀ m : Str, Q (.str m) H) := by
  intro pins s σ H xs us Q I r h
  obtain ⟨a, ns, rfl, ha, hl, hn, q⟩ := h
  obtain ⟨u, rfl, rx⟩ := vals1 r
  cases rx
  obtain ⟨zs, rv, ⟨o, ho, hc, n, hd⟩, hz⟩ := I.tuple (.inl (.inl ha) : SqT X.K H a _)
  have hu := hr.units
  have hT : ReprAll X.prog X.w zs.toArray.toList (ns.map fun n => (toString n : Str)) := by simpa using reprInts rv hn
  have hp : ∀ l : List Int, (∀ n ∈ l, n.natAbs.log2 < 1920) → piled (l.map fun n => (toString n : Str)) ≤ l.length * 1923 := by
    intro l
    induction l with
    | nil => intro _; exact Nat.le_refl _
    | cons z l ih =>
      intro h
      have a1 := int_text_length_le (a := z) (k := 1920) (by omega) (h z List.mem_cons_self)
      have a2 := ih fun n hn => h n (List.mem_cons_of_mem _ hn)
      rw [List.map_cons, piled_cons, List.length_cons]
      have a3 : ((toString z : Str)).length = (toString z).length := PySem.ofString_length _
      omega
  have h1 := fmt_text (ns.map fun n => (toString n : Str))
  have h2 := hp ns hn
  have h3 : ns.length * 1923 ≤ 192300 := by omega
  have h4 : (tupleText (ns.map fun n => (toString n : Str))).length ≤ sizeLine := by
    rw [sizeLine_eq]
    omega
  refine callType_new F.called_str (by decide) (F.typeCall_str_1 _) (F.newCall_str_1 _) (fun obj => F.args_object_init_2 obj _) F.entry_str_new
    (meets_str_new (S := fun A' R s' => A'.units + 4 < cLine ∧ s'.heap.get? a = some o ∧ ∀ (m : Str) (u tk : Tok), R (.ok (.ret (.str m u))) { s' with toks := tk }) fun prog w A' R s' h =>
      wpAny_strOf_slot rfl (by show A'.units + 1 + 1 < cLine; have := h.1; omega) ⟨o, h.2.1, hc⟩ F.slot_tuple_str F.slot_tuple_repr
        (fmt_tuple_repr h.2.1 hc hd ?_ h4 fun m u tk _ => ⟨m, u, rfl, h.2.2 m u tk⟩))
    ⟨by show X.A.units + 1 + 4 < cLine; omega, ho, fun m u tk => ⟨typeIs_str _ _ _, .str m, H, I.tok _, ⟨u, rfl⟩, q m⟩⟩
  exact by simpa using reprInts rv hn
end
end CK

set_option Elab.async false
set_option linter.all false
set_option maxRecDepth 100000
set_option maxHeartbeats 2000000
namespace CK
open PySem PySem.Spec PyProof.Rows L2
/-! ### a def as it stands behind the top, and its promise by its body -/
structure DefF (K : PySem.W.Frag) (mg : Str → Option Value) (x : Str) (st : Stmt) (ps : List Str) : Prop where
  ex : ∃ (f : Addr) (fd : FuncData), C8.Def K mg x st f fd ∧ ∀ us : List Value, us.length = ps.length → bindArgs fd ⟨us, []⟩ = pure (ps.zip us)
theorem defF_mk {K : PySem.W.Frag} {h : Heap} {mg : Str → Option Value} {x : Str} {st : Stmt} {ps : List Str} {f : Addr} {od an : Option Addr} {oc kV dc pm cd ct : Value} {sl : Array (Option Value)}
    (X : K.In h) (G : h.Ns mainGlobals mg) (a : PySem.W.nsIn K mainGlobals x = some (some (.ref f)))
    (l : K.lookup f = some ⟨oc, od, .func (PySem.W.fnOf x x (C8.fnArgs st) (C8.fnBody st) (C8.fnScope st) .none kV dc pm an cd ct), sl⟩)
    (c : PySem.W.codeIn K cd x = true) (k : PySem.W.keepIn K (.ref f) = true)
    (hb : ∀ (kV doc pm : Value) (an : Option Addr) (cdv ct : Value) (us : List Value), us.length = ps.length →
      bindArgs (PySem.W.fnOf x x (C8.fnArgs st) (C8.fnBody st) (C8.fnScope st) .none kV doc pm an cdv ct) ⟨us, []⟩ = pure (ps.zip us)) : DefF K mg x st ps :=
  ⟨f, _, ⟨⟨oc, od, .none, kV, dc, pm, an, cd, ct, sl, rfl, l, c⟩, PySem.W.mg_of X G a, k⟩, hb kV dc pm an cd ct⟩
theorem calF {P : Program} {w : World} {K : PySem.W.Frag} {mg : Str → Option Value} {base : Heap} {x : Str} {st : Stmt} {N ps : List Str} {k : Nat} {sp : Sp} (D : DefF K mg x st ps) (S : FnScope N ps (C8.fnScope st))
    (len : ∀ vs H Q E, sp vs H Q E → vs.length = ps.length)
    (hbody : ∀ (f : Addr) (cdv : Value) (A : Around) (outer : List Env) (s : Shared) (H : Hp) (vs : List V) (Q : VK) (E : XK), Room k (A.deeper (envOfC x (C8.fnScope st) s.heap.objs.size f cdv)) → sp vs H Q E →
      ∃ t, PSs (cxOf C8.CX0 P w K mg base N x (C8.fnScope st) f cdv A outer s H E).nox (C8.fnBody st) t ∧ t { nx := fun _ H' => Q .non H', rt := Q } (start N vs) H) : C8.Cal P w K mg base (k + 1) x sp [] := by
  obtain ⟨f, fd, F, b⟩ := D.ex
  exact C8.cal0 F (.all b) .nil S len (hbody f)
/-- a def of one parameter as it stands, for the law's end -/
theorem DefF.one {K : PySem.W.Frag} {mg : Str → Option Value} {x p : Str} {st : Stmt} (D : DefF K mg x st [p]) : ∃ (f : Addr) (fd : FuncData), mg x = some (.ref f) ∧ (∀ (s : Shared) (v : Value), BindsTo s fd ⟨[v], []⟩ [(p, v)]) ∧
    ∀ {P : Program} {w : World} {base : Heap} {N : List Str} {k : Nat} {sp : Sp} (S : FnScope N [p] (C8.fnScope st)) (len : ∀ vs H Q E, sp vs H Q E → vs.length = 1)
      (hbody : ∀ (f : Addr) (cdv : Value) (A : Around) (outer : List Env) (s : Shared) (H : Hp) (vs : List V) (Q : VK) (E : XK), Room k (A.deeper (envOfC x (C8.fnScope st) s.heap.objs.size f cdv)) → sp vs H Q E →
        ∃ t, PSs (cxOf C8.CX0 P w K mg base N x (C8.fnScope st) f cdv A outer s H E).nox (C8.fnBody st) t ∧ t { nx := fun _ H' => Q .non H', rt := Q } (start N vs) H), FnOk P w K mg base C8.CX0 (k + 1) f fd [p] sp := by
  obtain ⟨f, fd, F, b⟩ := D.ex
  exact ⟨f, fd, F.mgf, fun s v => .of_eq (b [v] rfl), fun S len hbody => C8.fn0 F.fn S len (hbody f)⟩

theorem with_def {K : PySem.W.Frag} {h : Heap} {mg : Str → Option Value} (_ : K.In h) (x : Str) (st : Stmt) (ps : List Str) {R : Prop} (d : DefF K mg x st ps) (r : DefF K mg x st ps → R) : R := r d
/-! ### heaps -/
/-- all that was tracked is as it was, but for g -/
def SameX (g : Addr) (H H' : Hp) : Prop := ∀ b o, b ≠ g → H b = some o → H' b = some o
theorem SameX.refl (g : Addr) (H : Hp) : SameX g H H := fun _ _ _ h => h
theorem SameX.trans {g : Addr} {H H1 H2 : Hp} (a : SameX g H H1) (b : SameX g H1 H2) : SameX g H H2 := fun c o n h => b c o n (a c o n h)
theorem SameX.of {g : Addr} {H H1 : Hp} (a : Same H H1) : SameX g H H1 := fun c o _ h => a c o h
theorem sameX_upd {g : Addr} {H : Hp} {o : HO} : SameX g H (upd H g o) := fun b z n e => by
  rw [upd_ne n]
  exact e
theorem same_upd2 {H H1 : Hp} {D : Addr} {o : HO} (hD : H D = none) (s : Same H H1) : Same H (upd H1 D o) := fun b z e => by
  rw [upd_ne (ne_of_none e hD)]
  exact s b z e

/-! ### what a value is -/
/-- the built-in type of a value that is known -/
def tnm (H : Hp) : V → String
  | .non => "NoneType"
  | .bl _ => "bool"
  | .int _ => "int"
  | .str _ => "str"
  | .ref a => match H a with
    | some (.lst _) => "list"
    | some (.tup _) => "tuple"
    | _ => "?"
  | _ => "?"
theorem tnm_tup {H : Hp} {a : Addr} {xs : List V} (h : H a = some (.tup xs)) : tnm H (.ref a) = "tuple" := by
  simp only [tnm, h]
theorem tnm_lst {H : Hp} {a : Addr} {xs : List V} (h : H a = some (.lst xs)) : tnm H (.ref a) = "list" := by
  simp only [tnm, h]
/-- a value whose type is known -/
inductive Kn (H : Hp) : V → Prop
  | non : Kn H .non
  | bl (b : Bool) : Kn H (.bl b)
  | int (i : Int) : Kn H (.int i)
  | str (x : Str) : Kn H (.str x)
  | lst {a : Addr} {xs : List V} (e : H a = some (.lst xs)) : Kn H (.ref a)
  | tup {a : Addr} {xs : List V} (e : H a = some (.tup xs)) : Kn H (.ref a)
theorem Kn.same {H H' : Hp} {v : V} (k : Kn H v) (s : Same H H') : Kn H' v := by
  cases k with
  | non => exact .non
  | bl b => exact .bl b
  | int i => exact .int i
  | str x => exact .str x
  | lst e => exact .lst (s _ _ e)
  | tup e => exact .tup (s _ _ e)
theorem Kn.ty {K : PySem.W.Frag} {H : Hp} {v : V} (k : Kn H v) : TyX K H v (.type (tnm H v)) := by
  cases k with
  | non => exact .base .non
  | bl b => exact .base (.bl b)
  | int i => exact .base (.int i)
  | str x => exact .base (.str x)
  | lst e => rw [tnm_lst e]; exact .base (.lst e)
  | tup e => rw [tnm_tup e]; exact .base (.tup e)
section
variable {X : Cx}
/-- isinstance(v, T), a known value, a built-in type -/
theorem call_isK : CallR X (.builtin "isinstance") (fun xs H Q => ∃ (v : V) (T : String) (b : Bool), xs = [v, .ty T] ∧ Kn H v ∧ kitB (tnm H v) T = some b ∧ Q (.bl b) H) := by
  intro pins s σ H xs us Q I r h
  obtain ⟨v, T, b, rfl, k, e, q⟩ := h
  exact call_isi pins s σ H _ us Q I r ⟨v, .ty T, _, _, b, rfl, .ty T, k.ty, kit_ty e, q⟩
end
/-- a whole number, no Boolean -/
def isW : V → Bool
  | .int _ => true
  | _ => false
/-- a count -/
def isC : V → Bool
  | .int i => decide (0 ≤ i)
  | _ => false
/-- isinstance(v, int) -/
def isI : V → Bool
  | .int _ => true
  | .bl _ => true
  | _ => false
def isBo : V → Bool
  | .bl _ => true
  | _ => false
def isTu (H : Hp) : V → Bool
  | .ref a => match H a with
    | some (.tup _) => true
    | _ => false
  | _ => false
def isLi (H : Hp) : V → Bool
  | .ref a => match H a with
    | some (.lst _) => true
    | _ => false
  | _ => false
theorem kit_int {H : Hp} {v : V} (k : Kn H v) : kitB (tnm H v) "int" = some (isI v) := by
  cases k with
  | non => show kitB "NoneType" "int" = some false; decide +kernel
  | bl b => show kitB "bool" "int" = some true; decide +kernel
  | int i => show kitB "int" "int" = some true; decide +kernel
  | str x => show kitB "str" "int" = some false; decide +kernel
  | lst e => rw [tnm_lst e]; show kitB "list" "int" = some false; decide +kernel
  | tup e => rw [tnm_tup e]; show kitB "tuple" "int" = some false; decide +kernel
theorem kit_bool {H : Hp} {v : V} (k : Kn H v) : kitB (tnm H v) "bool" = some (isBo v) := by
  cases k with
  | non => show kitB "NoneType" "bool" = some false; decide +kernel
  | bl b => show kitB "bool" "bool" = some true; decide +kernel
  | int i => show kitB "int" "bool" = some false; decide +kernel
  | str x => show kitB "str" "bool" = some false; decide +kernel
  | lst e => rw [tnm_lst e]; show kitB "list" "bool" = some false; decide +kernel
  | tup e => rw [tnm_tup e]; show kitB "tuple" "bool" = some false; decide +kernel
theorem kit_tuple {H : Hp} {v : V} (k : Kn H v) : kitB (tnm H v) "tuple" = some (isTu H v) := by
  cases k with
  | non => show kitB "NoneType" "tuple" = some false; decide +kernel
  | bl b => show kitB "bool" "tuple" = some false; decide +kernel
  | int i => show kitB "int" "tuple" = some false; decide +kernel
  | str x => show kitB "str" "tuple" = some false; decide +kernel
  | lst e => rw [tnm_lst e, show isTu H (.ref _) = false by simp only [isTu, e]]; decide +kernel
  | tup e => rw [tnm_tup e, show isTu H (.ref _) = true by simp only [isTu, e]]; decide +kernel
theorem kit_list {H : Hp} {v : V} (k : Kn H v) : kitB (tnm H v) "list" = some (isLi H v) := by
  cases k with
  | non => show kitB "NoneType" "list" = some false; decide +kernel
  | bl b => show kitB "bool" "list" = some false; decide +kernel
  | int i => show kitB "int" "list" = some false; decide +kernel
  | str x => show kitB "str" "list" = some false; decide +kernel
  | lst e => rw [tnm_lst e, show isLi H (.ref _) = true by simp only [isLi, e]]; decide +kernel
  | tup e => rw [tnm_tup e, show isLi H (.ref _) = false by simp only [isLi, e]]; decide +kernel
theorem isTu_tup {H : Hp} {a : Addr} {xs : List V} (e : H a = some (.tup xs)) : isTu H (.ref a) = true := by simp only [isTu, e]
theorem isLi_lst {H : Hp} {a : Addr} {xs : List V} (e : H a = some (.lst xs)) : isLi H (.ref a) = true := by simp only [isLi, e]

/-! ### comprehensions that map -/
/-- n turns, each giving f i and leaving all that was tracked -/
theorem lc_mapW {J : It} {n : Nat} {G : Hp → Prop} {Y : Nat → Hp → V → Hp → Prop} (w : Walk J n G Y) {g : TG} {te : TE} {vs : List Nat} {σ : L2.St} {H1 : Hp} {D : Addr} {Qd : Hp → Prop} (f : Nat → V) (hn : n < sizeLine)
    (hG : ∀ H, Same H1 H → G H)
    (hs : ∀ (i : Nat) (x : V) (H H' : Hp) (R : VK), i < n → Same H1 H → Y i H x H' → (∀ H'', Same H H'' → R (f i) H'') → g x (wipe σ vs) H' fun σ2 H2 => wipe σ2 vs = wipe σ vs ∧ te σ2 H2 R)
    (hD : H1 D = none) (hd : ∀ H : Hp, Same H1 H → H D = some (.lst ((List.range n).map f)) → Qd H) :
    ∃ W : Nat → Nat → Hp → Prop, (∃ m, W 0 m (upd H1 D (.lst []))) ∧ ∀ i m H, W i m H →
      (J.stop i H ∧ Qd H) ∨ (J.go i H ∧ ∃ Nx : Hp → Prop, (∀ H', Nx H' → ∃ m', m' < m ∧ W (i + 1) m' H') ∧ ∀ x H', J.yld i H x H' → g x (wipe σ vs) H' fun σ2 H2 => wipe σ2 vs = wipe σ vs ∧ tYes σ2 H2 fun b H3 =>
        if b = true then te σ2 H3 fun y H4 => ∃ acc, H4 D = some (.lst acc) ∧ acc.length < sizeLine ∧ Nx (upd H4 D (.lst (acc ++ [y]))) else Nx H3) := by
  refine lc_it w (fun i H => Same H1 H ∧ H D = some (.lst ((List.range i).map f)) ∧ i ≤ n) ⟨sameNew hD, upd_same, Nat.zero_le _⟩ (fun i H _ p => hG H p.1) (fun i x H H' hi p y => ?_) fun H p => hd H p.1 p.2.1
  have q := hs i x H H' (fun y H4 => ∃ acc, H4 D = some (.lst acc) ∧ acc.length < sizeLine ∧ (Same H1 (upd H4 D (.lst (acc ++ [y]))) ∧ upd H4 D (.lst (acc ++ [y])) D = some (.lst ((List.range (i + 1)).map f)) ∧ i + 1 ≤ n)) hi p.1 y fun H'' s => by
    refine ⟨_, s D _ p.2.1, ?_, same_upd2 hD (p.1.trans s), ?_, hi⟩
    · rw [List.length_map, List.length_range]
      omega
    · rw [upd_same, List.range_succ, List.map_append]
      rfl
  exact q
theorem range_map_get {α β : Type} (xs : List α) (f : α → β) (d : Nat → β) (h : ∀ (i : Nat) (x : α), xs[i]? = some x → d i = f x) : (List.range xs.length).map d = xs.map f := by
  refine List.ext_getElem? fun i => ?_
  by_cases hi : i < xs.length
  · rw [List.getElem?_map, List.getElem?_map, List.getElem?_range hi, List.getElem?_eq_getElem hi]
    exact congrArg some (h i _ (List.getElem?_eq_getElem hi))
  · rw [List.getElem?_eq_none (by simp; omega), List.getElem?_eq_none (by simp; omega)]
/-- over a tuple -/
theorem lcT_map {K : PySem.W.Frag} {a : Addr} {xs : List V} {j : Nat} {te : TE} {vs : List Nat} {σ : L2.St} {H1 : Hp} {D : Addr} {Qd : Hp → Prop} (f : V → V) (ha : H1 a = some (.tup xs)) (hn : xs.length < sizeLine)
    (hs : ∀ (i : Nat) (x : V) (H : Hp) (R : VK), xs[i]? = some x → Same H1 H → (∀ H', Same H H' → R (f x) H') → wipe ((wipe σ vs).set j (some x)) vs = wipe σ vs ∧ te ((wipe σ vs).set j (some x)) H R)
    (hD : H1 D = none) (hd : ∀ H : Hp, Same H1 H → H D = some (.lst (xs.map f)) → Qd H) :
    ∃ W : Nat → Nat → Hp → Prop, (∃ m, W 0 m (upd H1 D (.lst []))) ∧ ∀ i m H, W i m H →
      ((Itt K a).stop i H ∧ Qd H) ∨ ((Itt K a).go i H ∧ ∃ Nx : Hp → Prop, (∀ H', Nx H' → ∃ m', m' < m ∧ W (i + 1) m' H') ∧ ∀ x H', (Itt K a).yld i H x H' → gName j x (wipe σ vs) H' fun σ2 H2 => wipe σ2 vs = wipe σ vs ∧ tYes σ2 H2 fun b H3 =>
        if b = true then te σ2 H3 fun y H4 => ∃ acc, H4 D = some (.lst acc) ∧ acc.length < sizeLine ∧ Nx (upd H4 D (.lst (acc ++ [y]))) else Nx H3) := by
  have e : (List.range xs.length).map (fun i => f (xs.getD i .non)) = xs.map f := range_map_get xs f _ fun i x h => by rw [List.getD_eq_getElem?_getD, h]; rfl
  refine lc_mapW (walk_tup (K := K) (a := a) (xs := xs)) (fun i => f (xs.getD i .non)) hn (fun H s => .inl (.inl (s _ _ ha))) (fun i x H H' R hi s y q => ?_) hD fun H s q => hd H s (by rw [q, e])
  obtain ⟨rfl, hx⟩ := y
  refine hs i x H' R hx s fun H'' s' => ?_
  have := q H'' s'
  rw [show xs.getD i .non = x by rw [List.getD_eq_getElem?_getD, hx]; rfl] at this
  exact this
/-- over a list -/
theorem lcL_map {K : PySem.W.Frag} {a : Addr} {xs : List V} {j : Nat} {te : TE} {vs : List Nat} {σ : L2.St} {H1 : Hp} {D : Addr} {Qd : Hp → Prop} (f : V → V) (ha : H1 a = some (.lst xs)) (hn : xs.length < sizeLine)
    (hs : ∀ (i : Nat) (x : V) (H : Hp) (R : VK), xs[i]? = some x → Same H1 H → (∀ H', Same H H' → R (f x) H') → wipe ((wipe σ vs).set j (some x)) vs = wipe σ vs ∧ te ((wipe σ vs).set j (some x)) H R)
    (hD : H1 D = none) (hd : ∀ H : Hp, Same H1 H → H D = some (.lst (xs.map f)) → Qd H) :
    ∃ W : Nat → Nat → Hp → Prop, (∃ m, W 0 m (upd H1 D (.lst []))) ∧ ∀ i m H, W i m H →
      ((Itl K a).stop i H ∧ Qd H) ∨ ((Itl K a).go i H ∧ ∃ Nx : Hp → Prop, (∀ H', Nx H' → ∃ m', m' < m ∧ W (i + 1) m' H') ∧ ∀ x H', (Itl K a).yld i H x H' → gName j x (wipe σ vs) H' fun σ2 H2 => wipe σ2 vs = wipe σ vs ∧ tYes σ2 H2 fun b H3 =>
        if b = true then te σ2 H3 fun y H4 => ∃ acc, H4 D = some (.lst acc) ∧ acc.length < sizeLine ∧ Nx (upd H4 D (.lst (acc ++ [y]))) else Nx H3) := by
  have e : (List.range xs.length).map (fun i => f (xs.getD i .non)) = xs.map f := range_map_get xs f _ fun i x h => by rw [List.getD_eq_getElem?_getD, h]; rfl
  refine lc_mapW (walk_list (K := K) (a := a) (xs := xs)) (fun i => f (xs.getD i .non)) hn (fun H s => .inl (.inl (s _ _ ha))) (fun i x H H' R hi s y q => ?_) hD fun H s q => hd H s (by rw [q, e])
  obtain ⟨rfl, hx⟩ := y
  refine hs i x H' R hx s fun H'' s' => ?_
  have := q H'' s'
  rw [show xs.getD i .non = x by rw [List.getD_eq_getElem?_getD, hx]; rfl] at this
  exact this
/-- over a range -/
theorem lcR_map {lo : Int} {n : Nat} {j : Nat} {te : TE} {vs : List Nat} {σ : L2.St} {H1 : Hp} {D : Addr} {Qd : Hp → Prop} (f : Nat → V) (hn : n < sizeLine)
    (hs : ∀ (i : Nat) (H : Hp) (R : VK), i < n → Same H1 H → (∀ H', Same H H' → R (f i) H') → wipe ((wipe σ vs).set j (some (.int (lo + i)))) vs = wipe σ vs ∧ te ((wipe σ vs).set j (some (.int (lo + i)))) H R)
    (hD : H1 D = none) (hd : ∀ H : Hp, Same H1 H → H D = some (.lst ((List.range n).map f)) → Qd H) :
    ∃ W : Nat → Nat → Hp → Prop, (∃ m, W 0 m (upd H1 D (.lst []))) ∧ ∀ i m H, W i m H →
      ((Itr lo n).stop i H ∧ Qd H) ∨ ((Itr lo n).go i H ∧ ∃ Nx : Hp → Prop, (∀ H', Nx H' → ∃ m', m' < m ∧ W (i + 1) m' H') ∧ ∀ x H', (Itr lo n).yld i H x H' → gName j x (wipe σ vs) H' fun σ2 H2 => wipe σ2 vs = wipe σ vs ∧ tYes σ2 H2 fun b H3 =>
        if b = true then te σ2 H3 fun y H4 => ∃ acc, H4 D = some (.lst acc) ∧ acc.length < sizeLine ∧ Nx (upd H4 D (.lst (acc ++ [y]))) else Nx H3) := by
  refine lc_mapW (walk_range (lo := lo) (n := n)) f hn (fun H s => True.intro) (fun i x H H' R hi s y q => ?_) hD fun H s q => hd H s q
  obtain ⟨rfl, rfl⟩ := y
  exact hs i H' R hi s q
theorem range_map_zip {α β γ : Type} (xs : List α) (ys : List β) (hl : xs.length = ys.length) (f : α → β → γ) (d : Nat → γ) (h : ∀ (i : Nat) (x : α) (y : β), xs[i]? = some x → ys[i]? = some y → d i = f x y) : (List.range xs.length).map d = List.zipWith f xs ys := by
  refine List.ext_getElem? fun i => ?_
  by_cases hi : i < xs.length
  · have hi2 : i < ys.length := by omega
    rw [List.getElem?_map, List.getElem?_range hi, List.getElem?_zipWith, List.getElem?_eq_getElem hi, List.getElem?_eq_getElem hi2]
    exact congrArg some (h i _ _ (List.getElem?_eq_getElem hi) (List.getElem?_eq_getElem hi2))
  · rw [List.getElem?_eq_none (by simp; omega), List.getElem?_eq_none (by simp; omega)]
/-- over zip -/
theorem lcZ_map {K : PySem.W.Frag} {k k' : Kd} {a b : Addr} {xs ys : List V} {i1 i2 : Nat} {te : TE} {vs : List Nat} {σ : L2.St} {H1 : Hp} {D : Addr} {Qd : Hp → Prop} (f : V → V → V) (hl : xs.length = ys.length) (hn : xs.length < sizeLine)
    (ha : ∀ H, Same H1 H → SqB K k H a xs ∧ SqB K k' H b ys)
    (hs : ∀ (i : Nat) (x y : V) (H : Hp) (R : VK), xs[i]? = some x → ys[i]? = some y → Same H1 H → (∀ H', Same H H' → R (f x y) H') → wipe (((wipe σ vs).set i1 (some x)).set i2 (some y)) vs = wipe σ vs ∧ te (((wipe σ vs).set i1 (some x)).set i2 (some y)) H R)
    (hD : H1 D = none) (hd : ∀ H : Hp, Same H1 H → H D = some (.lst (List.zipWith f xs ys)) → Qd H) :
    ∃ W : Nat → Nat → Hp → Prop, (∃ m, W 0 m (upd H1 D (.lst []))) ∧ ∀ i m H, W i m H →
      ((ItB K k k' a b).stop i H ∧ Qd H) ∨ ((ItB K k k' a b).go i H ∧ ∃ Nx : Hp → Prop, (∀ H', Nx H' → ∃ m', m' < m ∧ W (i + 1) m' H') ∧ ∀ x H', (ItB K k k' a b).yld i H x H' → gTup K 2 (gCons (gName i1) (gCons (gName i2) gNil)) x (wipe σ vs) H' fun σ2 H2 => wipe σ2 vs = wipe σ vs ∧ tYes σ2 H2 fun b H3 =>
        if b = true then te σ2 H3 fun y H4 => ∃ acc, H4 D = some (.lst acc) ∧ acc.length < sizeLine ∧ Nx (upd H4 D (.lst (acc ++ [y]))) else Nx H3) := by
  have e : (List.range xs.length).map (fun i => f (xs.getD i .non) (ys.getD i .non)) = List.zipWith f xs ys := range_map_zip xs ys hl f _ fun i x y h h' => by
    rw [List.getD_eq_getElem?_getD, List.getD_eq_getElem?_getD, h, h']
    rfl
  refine lc_mapW (walkB (K := K) (k := k) (k' := k') (a := a) (b := b) hl) (fun i => f (xs.getD i .non) (ys.getD i .non)) hn ha (fun i v H H' R hi s y q => ?_) hD fun H s q => hd H s (by rw [q, e])
  obtain ⟨T, x, y, rfl, hT, rfl, hx, hy⟩ := y
  have hx : xs[i]? = some x := hx
  have hy : ys[i]? = some y := hy
  have st : Same H (upd H T (.tup [x, y])) := sameNew hT
  refine ⟨T, [x, y], rfl, .inl (.inl upd_same), rfl, x, [y], rfl, y, [], rfl, rfl, hs i x y _ R hx hy (s.trans st) fun H'' s' => ?_⟩
  have := q H'' (st.trans s')
  rw [show xs.getD i .non = x by rw [List.getD_eq_getElem?_getD, hx]; rfl, show ys.getD i .non = y by rw [List.getD_eq_getElem?_getD, hy]; rfl] at this
  exact this
end CK

set_option Elab.async false
set_option linter.all false
set_option maxRecDepth 100000
set_option maxHeartbeats 2000000
namespace CK
open PySem PySem.Spec PyProof.Rows L2
theorem cutV_drop (xs : List V) (k : Nat) : cutV xs (some (k : Int)) none = xs.drop k := by
  unfold cutV
  rw [HT.sIx_nat xs.length 0 k, HT.sIx_none]
  by_cases h : k ≤ xs.length
  · rw [Nat.min_eq_left h, List.take_of_length_le (by rw [List.length_drop]; exact Nat.le_refl _)]
  · rw [Nat.min_eq_right (by omega), List.drop_of_length_le (Nat.le_refl _), List.drop_of_length_le (by omega), List.take_nil]
theorem cutV_take (xs : List V) (k : Nat) : cutV xs none (some (k : Int)) = xs.take k := by
  unfold cutV
  rw [HT.sIx_nat xs.length xs.length k, HT.sIx_none]
  show (xs.drop 0).take (min k xs.length - 0) = xs.take k
  rw [List.drop_zero, Nat.sub_zero]
  by_cases h : k ≤ xs.length
  · rw [Nat.min_eq_left h]
  · rw [Nat.min_eq_right (by omega), List.take_of_length_le (Nat.le_refl _), List.take_of_length_le (by omega)]
section
variable {X : Cx}
/-- a, b = a pair -/
theorem pg_two {K : PySem.W.Frag} {i j : Nat} {x y : Str} {px py pos : Pos} {k : Nat} (hK : X.K = K) (hc : X.calm = true) (hN : X.N.Nodup) (hi : X.N[i]? = some x) (hj : X.N[j]? = some y) (hx : Loc X.env.scope x) (hy : Loc X.env.scope y)
    (f1 : X.fn x = true ∨ X.env.scope.names.lookup x = some .local := by first | exact .inl rfl | exact .inr rfl)
    (f2 : X.fn y = true ∨ X.env.scope.names.lookup y = some .local := by first | exact .inl rfl | exact .inr rfl) :
    PG X (.Tuple [.Name x px, .Name y py] k pos) (gTup K 2 (gCons (gName i) (gCons (gName j) gNil))) := by
  subst hK
  exact pg_tup hc (pgs_cons (pg_name hN hi hx f1) (pgs_cons (pg_name hN hj hy f2) pgs_nil))
/-- t[k:], a tuple: what is behind, wherever it stands -/
theorem sl_drop : SlR X (fun x lo hi H Q => ∃ (a : Addr) (xs : List V) (k : Nat), x = .ref a ∧ lo = some (k : Int) ∧ hi = none ∧ H a = some (.tup xs) ∧ ∀ p H', Same H H' → H' p = some (.tup (xs.drop k)) → Q (.ref p) H') := by
  intro pins s σ H x v vl vu lo hi sl Q I rx hs pl pu h
  obtain ⟨a, xs, k, rfl, rfl, rfl, ha, q⟩ := h
  refine sl_tupA pins s σ H _ v vl vu _ _ sl Q I rx hs pl pu ⟨a, xs, rfl, .inl (.inl ha), fun z => q a H (Same.refl H) ?_, fun _ p hp => q p _ (sameNew hp) (by rw [upd_same, cutV_drop])⟩
  rw [ha, ← cutV_drop xs k]
  unfold cutV
  rw [z.1, z.2, Nat.sub_zero, List.drop_zero, List.take_length]
/-- t[:k] -/
theorem sl_take : SlR X (fun x lo hi H Q => ∃ (a : Addr) (xs : List V) (k : Nat), x = .ref a ∧ lo = none ∧ hi = some (k : Int) ∧ H a = some (.tup xs) ∧ ∀ p H', Same H H' → H' p = some (.tup (xs.take k)) → Q (.ref p) H') := by
  intro pins s σ H x v vl vu lo hi sl Q I rx hs pl pu h
  obtain ⟨a, xs, k, rfl, rfl, rfl, ha, q⟩ := h
  refine sl_tupA pins s σ H _ v vl vu _ _ sl Q I rx hs pl pu ⟨a, xs, rfl, .inl (.inl ha), fun z => q a H (Same.refl H) ?_, fun _ p hp => q p _ (sameNew hp) (by rw [upd_same, cutV_take])⟩
  rw [ha, ← cutV_take xs k]
  unfold cutV
  rw [z.1, z.2, Nat.sub_zero, List.drop_zero, List.take_length]
/-- t + u, tuples -/
theorem op_catS : OpR X (binaryOp .Add) (fun x y H Q => ∃ (a b : Addr) (xs ys : List V), x = .ref a ∧ y = .ref b ∧ H a = some (.tup xs) ∧ H b = some (.tup ys) ∧ xs.length + ys.length ≤ 1000 ∧
    ∀ p H', Same H H' → H' p = some (.tup (xs ++ ys)) → Q (.ref p) H') := by
  intro pins s σ H x y v u Q I rx ry h
  obtain ⟨a, b, xs, ys, rfl, rfl, ha, hb, hl, q⟩ := h
  refine op_catA pins s σ H _ _ v u Q I rx ry ⟨a, b, xs, ys, rfl, rfl, .inl (.inl ha), .inl (.inl hb), Nat.le_of_lt (small1000 hl), fun e => ?_, fun _ e => ?_, fun _ _ p hp => q p _ (sameNew hp) upd_same⟩
  · subst e
    exact q b H (Same.refl H) hb
  · subst e
    exact q a H (Same.refl H) (by rw [List.append_nil]; exact ha)
/-- t[i], xs[i] of what is tracked (no word of the written part, so that it stands in a comprehension) -/
theorem ix_tupH : IxR X (fun x y H Q => ∃ (p : Addr) (xs : List V) (i : Int) (v : V), x = .ref p ∧ y = .int i ∧ H p = some (.tup xs) ∧ atI xs i = some v ∧ Q v H) := by
  intro ve se pins s σ H x y xv yv Q I rx ry h e
  obtain ⟨p, xs, i, v, e1, e2, hp, e3, q⟩ := h
  exact ix_tup ve se pins s σ H x y xv yv Q I rx ry ⟨p, xs, i, v, e1, e2, .inl (.inl hp), e3, q⟩ e
theorem ix_listH : IxR X (fun x y H Q => ∃ (p : Addr) (xs : List V) (i : Int) (v : V), x = .ref p ∧ y = .int i ∧ H p = some (.lst xs) ∧ atI xs i = some v ∧ Q v H) := by
  intro ve se pins s σ H x y xv yv Q I rx ry h e
  obtain ⟨p, xs, i, v, e1, e2, hp, e3, q⟩ := h
  exact ix_list ve se pins s σ H x y xv yv Q I rx ry ⟨p, xs, i, v, e1, e2, .inl (.inl hp), e3, q⟩ e
theorem cr_sumH (hc : X.calm = true) : CallR X (.builtin "sum") (fun vs H Q => ∃ (a : Addr) (ns : List Int), vs = [V.ref a] ∧ H a = some (.lst (ns.map V.int)) ∧ Q (.int ns.sum) H) := by
  intro pins s σ H xs us Q I r h
  obtain ⟨a, ns, e, ha, q⟩ := h
  exact cr_sum hc pins s σ H xs us Q I r ⟨a, ns, e, .inl (.inl ha), q⟩
theorem call_listL : CallR X (.type "list") (fun xs H Q => ∃ (p : Addr) (ys : List V), xs = [.ref p] ∧ H p = some (.lst ys) ∧ ∀ l, H l = none → Q (.ref l) (upd H l (.lst ys))) := by
  intro pins s σ H xs us Q I r h
  obtain ⟨p, ys, e, hp, q⟩ := h
  exact call_list_of pins s σ H xs us Q I r ⟨p, ys, e, .inl (.inl (.inl hp)), q⟩
/-- tuple(xs) of a list: a new tuple -/
theorem call_tupL : CallR X (.type "tuple") (fun xs H Q => ∃ (p : Addr) (ys : List V), xs = [.ref p] ∧ H p = some (.lst ys) ∧ ∀ l H', Same H H' → H' l = some (.tup ys) → Q (.ref l) H') := by
  intro pins s σ H xs us Q I r h
  obtain ⟨p, ys, rfl, hp, q⟩ := h
  exact call_tuple_of pins s σ H _ us Q I r ⟨p, ys, rfl, .inl ⟨.inl (.inl hp), fun l hl => q l _ (sameNew hl) upd_same⟩⟩
end
end CK

set_option Elab.async false
set_option linter.all false
set_option maxRecDepth 100000
set_option maxHeartbeats 2000000
/-! the laws' generator of numbers: a list of three whole numbers -/
namespace CK
open PySem PySem.Spec PyProof.Rows L2
/-- the generator at g, from which n more numbers may be drawn -/
def Gn (n : Nat) (H : Hp) (g : Addr) : Prop := ∃ a b c : Int, H g = some (.lst [.int a, .int b, .int c]) ∧ 0 ≤ a ∧ 0 ≤ b ∧ b < 2 ^ 31 ∧ 0 ≤ c ∧ c + 8 * n ≤ 2 ^ 40
theorem Gn.le {n m : Nat} {H : Hp} {g : Addr} (h : Gn n H g) (hm : m ≤ n) : Gn m H g := by
  obtain ⟨a, b, c, h1, h2, h3, h4, h5, h6⟩ := h
  exact ⟨a, b, c, h1, h2, h3, h4, h5, by omega⟩
theorem Gn.same {n : Nat} {H H' : Hp} {g : Addr} (h : Gn n H g) (s : Same H H') : Gn n H' g := by
  obtain ⟨a, b, c, h1, r⟩ := h
  exact ⟨a, b, c, s _ _ h1, r⟩
theorem Gn.at {n : Nat} {H : Hp} {g : Addr} (h : Gn n H g) : ∃ xs, H g = some (.lst xs) := by
  obtain ⟨a, b, c, h1, r⟩ := h
  exact ⟨_, h1⟩
theorem Gn.ne {n : Nat} {H : Hp} {g D : Addr} (h : Gn n H g) (hD : H D = none) : D ≠ g := fun e => by
  obtain ⟨xs, h1⟩ := h.at
  rw [e, h1] at hD
  cases hD
theorem Gn.upd {n : Nat} {H : Hp} {g D : Addr} {o : HO} (h : Gn n H g) (hD : D ≠ g) : Gn n (upd H D o) g := by
  obtain ⟨a, b, c, h1, r⟩ := h
  exact ⟨a, b, c, by rw [upd_ne (Ne.symm hD)]; exact h1, r⟩
theorem sameX_new {g : Addr} {H : Hp} {D : Addr} {o : HO} (hD : H D = none) : SameX g H (L2.upd H D o) := .of (sameNew hD)
theorem SameX.upd2 {g D : Addr} {H H1 : Hp} {o : HO} (s : SameX g H H1) (hD : H D = none) : SameX g H (L2.upd H1 D o) := fun b z n e => by
  rw [upd_ne (ne_of_none e hD)]
  exact s b z n e
theorem SameX.tup {g a : Addr} {H H' : Hp} {xs : List V} {n : Nat} (s : SameX g H H') (G : Gn n H g) (h : H a = some (.tup xs)) : H' a = some (.tup xs) := s a _ (fun e => by
  obtain ⟨ys, h1⟩ := G.at
  rw [e, h1] at h
  cases h) h
theorem ix_at {n j : Nat} (h : j < n) : ixN n (j : Int) = some j := by
  unfold ixN
  rw [if_pos (by omega), if_pos (by omega)]
  rfl
/-- a comprehension that draws: its numbers stay within most -/
theorem lcD_draw {lo : Int} {g : Addr} {n cnt j : Nat} {most : Int} {te : TE} {vs : List Nat} {σ : L2.St} {H1 : Hp} {D : Addr} {Qd : Hp → Prop} (hc : cnt < sizeLine) (hD : H1 D = none) (hg : Gn (n + cnt) H1 g)
    (hs : ∀ (i : Nat) (H : Hp) (R : VK), i < cnt → SameX g H1 H → Gn (n + (cnt - (i + 1)) + 1) H g → (∀ (r : Int) H', SameX g H H' → Gn (n + (cnt - (i + 1))) H' g → 0 ≤ r → r ≤ most → R (.int r) H') →
      wipe ((wipe σ vs).set j (some (.int (lo + i)))) vs = wipe σ vs ∧ te ((wipe σ vs).set j (some (.int (lo + i)))) H R)
    (hd : ∀ (H : Hp) (ns : List Int), SameX g H1 H → Gn n H g → H D = some (.lst (ns.map V.int)) → ns.length = cnt → (∀ x ∈ ns, 0 ≤ x ∧ x ≤ most) → Qd H) :
    ∃ W : Nat → Nat → Hp → Prop, (∃ m, W 0 m (L2.upd H1 D (.lst []))) ∧ ∀ i m H, W i m H →
      ((Itr lo cnt).stop i H ∧ Qd H) ∨ ((Itr lo cnt).go i H ∧ ∃ Nx : Hp → Prop, (∀ H', Nx H' → ∃ m', m' < m ∧ W (i + 1) m' H') ∧ ∀ x H', (Itr lo cnt).yld i H x H' → gName j x (wipe σ vs) H' fun σ2 H2 => wipe σ2 vs = wipe σ vs ∧ tYes σ2 H2 fun b H3 =>
        if b = true then te σ2 H3 fun y H4 => ∃ acc, H4 D = some (.lst acc) ∧ acc.length < sizeLine ∧ Nx (L2.upd H4 D (.lst (acc ++ [y]))) else Nx H3) := by
  have hDg := hg.ne hD
  refine lc_range (fun i H => SameX g H1 H ∧ Gn (n + (cnt - i)) H g ∧ i ≤ cnt ∧ ∃ ns : List Int, H D = some (.lst (ns.map V.int)) ∧ ns.length = i ∧ ∀ x ∈ ns, 0 ≤ x ∧ x ≤ most)
    ⟨sameX_new hD, hg.upd hDg, Nat.zero_le _, [], upd_same, rfl, fun x h => absurd h List.not_mem_nil⟩ (fun i H hi p => ?_) fun H p => ?_
  · obtain ⟨s, G, _, ns, hL, hl, hb⟩ := p
    have G1 : Gn (n + (cnt - (i + 1)) + 1) H g := by
      have e : n + (cnt - (i + 1)) + 1 = n + (cnt - i) := by omega
      rw [e]
      exact G
    refine hs i H _ hi s G1 fun r H' s' G' h0 h1 => ⟨_, s' D _ hDg hL, by rw [List.length_map]; omega, (s.trans s').upd2 hD, G'.upd hDg, hi, ns ++ [r], ?_, ?_, fun x hx => ?_⟩
    · rw [upd_same, List.map_append]
      rfl
    · rw [List.length_append, hl]
      rfl
    · rcases List.mem_append.mp hx with z | z
      · exact hb x z
      · rw [List.mem_singleton.mp z]
        exact ⟨h0, h1⟩
  · obtain ⟨s, G, _, ns, hL, hl, hb⟩ := p
    rw [Nat.sub_self] at G
    exact hd H ns s G hL hl hb
end CK

set_option Elab.async false
set_option linter.all false
set_option maxRecDepth 100000
set_option maxHeartbeats 2000000
namespace CK
open PySem PySem.Spec PyProof.Rows L2
/-! ### data that are compared -/
def dI (ns : List Int) : PyData := .tuple (ns.map PyData.int)
theorem lay_ints : ∀ ns : List Int, PyData.canLayAll0 (ns.map PyData.int) = true
  | [] => by simp [PyData.canLayAll0]
  | n :: ns => by
    rw [List.map_cons, PyData.canLayAll0, lay_ints ns]
    simp [PyData.canLay0]
theorem deep_ints : ∀ ns : List Int, PyData.depthAll (ns.map PyData.int) = 0
  | [] => by simp [PyData.depthAll]
  | n :: ns => by
    rw [List.map_cons, PyData.depthAll, deep_ints ns]
    simp [PyData.depth]
theorem lay_dI (ns : List Int) : (dI ns).canLay0 = true := by
  unfold dI
  rw [PyData.canLay0]
  exact lay_ints ns
theorem deep_dI (ns : List Int) : (dI ns).depth = 1 := by
  unfold dI
  rw [PyData.depth, deep_ints]
theorem shaped_dI (ns : List Int) : SeqAt.shaped (dI ns) = true := by
  unfold SeqAt.shaped
  rw [lay_dI, deep_dI]
  rfl
theorem lay_forms : ∀ fs : List (List Int), PyData.canLayAll0 (fs.map dI) = true
  | [] => by simp [PyData.canLayAll0]
  | f :: fs => by
    rw [List.map_cons, PyData.canLayAll0, lay_forms fs, lay_dI]
    rfl
theorem deep_forms : ∀ fs : List (List Int), PyData.depthAll (fs.map dI) ≤ 1
  | [] => by simp [PyData.depthAll]
  | f :: fs => by
    have := deep_forms fs
    rw [List.map_cons, PyData.depthAll, deep_dI]
    omega
theorem shaped_forms (fs : List (List Int)) : SeqAt.shaped (.list (fs.map dI)) = true := by
  unfold SeqAt.shaped
  rw [PyData.canLay0, lay_forms, PyData.depth]
  have := deep_forms fs
  rw [decide_eq_true (by omega)]
  rfl
section
variable {K : PySem.W.Frag} {H : Hp}
theorem dpAll_ints : ∀ ns : List Int, DpAll K H (ns.map V.int) (ns.map PyData.int)
  | [] => .nil
  | n :: ns => .cons (.int n) (dpAll_ints ns)
theorem dp_ints {a : Addr} {ns : List Int} (h : H a = some (.tup (ns.map V.int))) : Dp K H (.ref a) (dI ns) := .tup (.inl (.inl h)) (dpAll_ints ns)
end
section
variable {X : Cx}
/-- x != y, of equal data -/
theorem op_neSame (hu : X.A.units + 64 < cLine) : OpR X (compareOp .NotEq) (fun x y H Q => ∃ d, Dp X.K H x d ∧ Dp X.K H y d ∧ SeqAt.shaped d = true ∧ Q (.bl false) H) := by
  intro pins s σ H x y v u Q I rx ry h
  obtain ⟨d, h1, h2, h3, q⟩ := h
  refine op_neD hu pins s σ H x y v u Q I rx ry ⟨d, d, h1, h2, h3, h3, ?_⟩
  rw [SeqAt.eqv_refl d (SeqAt.canLay_of_shaped h3)]
  exact q
end
/-! ### comprehensions that map, by the turn's number -/
theorem lcZ_mapI {K : PySem.W.Frag} {k k' : Kd} {a b : Addr} {xs ys : List V} {i1 i2 : Nat} {te : TE} {vs : List Nat} {σ : L2.St} {H1 : Hp} {D : Addr} {Qd : Hp → Prop} (f : Nat → V) (hl : xs.length = ys.length) (hn : xs.length < sizeLine)
    (ha : ∀ H, Same H1 H → SqB K k H a xs ∧ SqB K k' H b ys)
    (hs : ∀ (i : Nat) (x y : V) (H : Hp) (R : VK), xs[i]? = some x → ys[i]? = some y → Same H1 H → (∀ H', Same H H' → R (f i) H') → wipe (((wipe σ vs).set i1 (some x)).set i2 (some y)) vs = wipe σ vs ∧ te (((wipe σ vs).set i1 (some x)).set i2 (some y)) H R)
    (hD : H1 D = none) (hd : ∀ H : Hp, Same H1 H → H D = some (.lst ((List.range xs.length).map f)) → Qd H) :
    ∃ W : Nat → Nat → Hp → Prop, (∃ m, W 0 m (upd H1 D (.lst []))) ∧ ∀ i m H, W i m H →
      ((ItB K k k' a b).stop i H ∧ Qd H) ∨ ((ItB K k k' a b).go i H ∧ ∃ Nx : Hp → Prop, (∀ H', Nx H' → ∃ m', m' < m ∧ W (i + 1) m' H') ∧ ∀ x H', (ItB K k k' a b).yld i H x H' → gTup K 2 (gCons (gName i1) (gCons (gName i2) gNil)) x (wipe σ vs) H' fun σ2 H2 => wipe σ2 vs = wipe σ vs ∧ tYes σ2 H2 fun b H3 =>
        if b = true then te σ2 H3 fun y H4 => ∃ acc, H4 D = some (.lst acc) ∧ acc.length < sizeLine ∧ Nx (upd H4 D (.lst (acc ++ [y]))) else Nx H3) := by
  refine lc_mapW (walkB (K := K) (k := k) (k' := k') (a := a) (b := b) hl) f hn ha (fun i v H H' R hi s y q => ?_) hD hd
  obtain ⟨T, x, y, rfl, hT, rfl, hx, hy⟩ := y
  have hx : xs[i]? = some x := hx
  have hy : ys[i]? = some y := hy
  have st : Same H (upd H T (.tup [x, y])) := sameNew hT
  exact ⟨T, [x, y], rfl, .inl (.inl upd_same), rfl, x, [y], rfl, y, [], rfl, rfl, hs i x y _ R hx hy (s.trans st) fun H'' s' => q H'' (st.trans s')⟩
theorem lcL_mapI {K : PySem.W.Frag} {a : Addr} {xs : List V} {j : Nat} {te : TE} {vs : List Nat} {σ : L2.St} {H1 : Hp} {D : Addr} {Qd : Hp → Prop} (f : Nat → V) (ha : H1 a = some (.lst xs)) (hn : xs.length < sizeLine)
    (hs : ∀ (i : Nat) (x : V) (H : Hp) (R : VK), xs[i]? = some x → Same H1 H → (∀ H', Same H H' → R (f i) H') → wipe ((wipe σ vs).set j (some x)) vs = wipe σ vs ∧ te ((wipe σ vs).set j (some x)) H R)
    (hD : H1 D = none) (hd : ∀ H : Hp, Same H1 H → H D = some (.lst ((List.range xs.length).map f)) → Qd H) :
    ∃ W : Nat → Nat → Hp → Prop, (∃ m, W 0 m (upd H1 D (.lst []))) ∧ ∀ i m H, W i m H →
      ((Itl K a).stop i H ∧ Qd H) ∨ ((Itl K a).go i H ∧ ∃ Nx : Hp → Prop, (∀ H', Nx H' → ∃ m', m' < m ∧ W (i + 1) m' H') ∧ ∀ x H', (Itl K a).yld i H x H' → gName j x (wipe σ vs) H' fun σ2 H2 => wipe σ2 vs = wipe σ vs ∧ tYes σ2 H2 fun b H3 =>
        if b = true then te σ2 H3 fun y H4 => ∃ acc, H4 D = some (.lst acc) ∧ acc.length < sizeLine ∧ Nx (upd H4 D (.lst (acc ++ [y]))) else Nx H3) := by
  refine lc_mapW (walk_list (K := K) (a := a) (xs := xs)) f hn (fun H s => .inl (.inl (s _ _ ha))) (fun i x H H' R hi s y q => ?_) hD hd
  obtain ⟨rfl, hx⟩ := y
  exact hs i x H' R hx s q
end CK

set_option Elab.async false
set_option linter.all false
set_option maxRecDepth 100000
set_option maxHeartbeats 2000000
/-! own classes: their facts, their methods' promises by their bodies -/
namespace CK
open PySem PySem.Spec PyProof.Rows L2
/-- a method's def as it stands behind the top -/
structure MetF (K : PySem.W.Frag) (C : Addr) (m q : Str) (st : Stmt) (ps : List Str) : Prop where
  ex : ∃ (f : Addr) (fd : FuncData), C8.Fun K m q st f fd ∧ Meth K C m f ∧ Binds K fd ps []
/-- a class as it stands -/
structure ClF (K : PySem.W.Frag) (mg : Str → Option Value) (x : Str) (C : Addr) : Prop where
  mgC : mg x = some (.ref C)
  makes : PySem.W.makesIn K C = true
  kp : PySem.W.keepIn K (.ref C) = true
  ins : C8.InsC K C
theorem metF_mk {K : PySem.W.Frag} {mg : Str → Option Value} {x : Str} {C : Addr} (_ : ClF K mg x C) (m q : Str) (st : Stmt) (ps : List Str) {f : Addr} {od an : Option Addr} {oc kV dc pm cd ct : Value} {sl : Array (Option Value)}
    (a : PySem.W.findIn K (.ref C) m = some (some (.ref f))) (i : PySem.W.isFn K (.ref f) = true)
    (l : K.lookup f = some ⟨oc, od, .func (PySem.W.fnOf m q (C8.fnArgs st) (C8.fnBody st) (C8.fnScope st) .none kV dc pm an cd ct), sl⟩)
    (c : PySem.W.codeIn K cd q = true) (k : PySem.W.keepIn K (.ref f) = true)
    (hb : ∀ (kV doc pm : Value) (an : Option Addr) (cdv ct : Value) (us : List Value), us.length = ps.length →
      bindArgs (PySem.W.fnOf m q (C8.fnArgs st) (C8.fnBody st) (C8.fnScope st) .none kV doc pm an cdv ct) ⟨us, []⟩ = pure (ps.zip us)) : MetF K C m q st ps :=
  ⟨f, _, ⟨oc, od, .none, kV, dc, pm, an, cd, ct, sl, rfl, l, c⟩, ⟨a, i, k⟩, C8.Fun.binds ⟨oc, od, .none, kV, dc, pm, an, cd, ct, sl, rfl, l, c⟩ rfl hb⟩
theorem clF_mk {K : PySem.W.Frag} {h : Heap} {mg : Str → Option Value} {x : Str} {C : Addr} (X : K.In h) (G : h.Ns mainGlobals mg)
    (a : PySem.W.nsIn K mainGlobals x = some (some (.ref C))) (pg : PySem.W.plainGet K C Str.empty = true) (hd : PySem.W.hasDictIn K C = true) (po : PySem.W.plainOver K C = true)
    (sa : PySem.W.findIn K (.ref C) "__setattr__" = some (some (.builtin "object.__setattr__"))) (mk : PySem.W.makesIn K C = true) (kp : PySem.W.keepIn K (.ref C) = true)
    (ha : PySem.W.findIn K (.ref C) "__class__" = some (some (.builtin "object.__class__"))) (hn : PySem.W.specialIn K (.builtin "object.__class__") "__get__" = some (some (.builtin "getset_descriptor.__get__")))
    (htk : PySem.W.takesIn K (.builtin "object.__class__") = some true) (hm : PySem.W.mroIn K C (.type "object") = some true) : ClF K mg x C :=
  ⟨PySem.W.mg_of X G a, mk, kp, ⟨⟨pg, hd, po, sa⟩, ha, hn, htk, hm, if_pos (beq_self_eq_true _)⟩⟩
theorem with_cls {K : PySem.W.Frag} {h : Heap} {mg : Str → Option Value} (_ : K.In h) (x : Str) {C : Addr} {R : Prop} (d : ClF K mg x C) (r : ClF K mg x C → R) : R := r d
theorem with_met {K : PySem.W.Frag} {mg : Str → Option Value} {x : Str} {C : Addr} (_ : ClF K mg x C) (m q : Str) (st : Stmt) (ps : List Str) {R : Prop} (d : MetF K C m q st ps) (r : MetF K C m q st ps → R) : R := r d
section
variable {P : Program} {w : World} {K : PySem.W.Frag} {mg : Str → Option Value} {base : Heap} {x : Str} {C : Addr}
theorem metF {m q : Str} {st : Stmt} {N ps : List Str} {k : Nat} {sp : Sp} (c : ClF K mg x C) (D : MetF K C m q st ps) (S : FnScope N ps (C8.fnScope st))
    (len : ∀ vs H Q E, sp vs H Q E → vs.length = ps.length)
    (hbody : ∀ (f : Addr) (cdv : Value) (A : Around) (outer : List Env) (s : Shared) (H : Hp) (vs : List V) (Q : VK) (E : XK), Room k (A.deeper (envOfC q (C8.fnScope st) s.heap.objs.size f cdv)) → sp vs H Q E →
      ∃ t, PSs (cxOf C8.CX0 P w K mg base N q (C8.fnScope st) f cdv A outer s H E).nox (C8.fnBody st) t ∧ t { nx := fun _ H' => Q .non H', rt := Q } (start N vs) H) : C8.Met P w K mg base (k + 1) C m sp [] := by
  obtain ⟨f, fd, F, me, b⟩ := D.ex
  exact C8.met0 c.ins.cl me F b S len (hbody f)
theorem makF {q : Str} {st : Stmt} {N ps : List Str} {k : Nat} {sp : Sp} (c : ClF K mg x C) (D : MetF K C "__init__" q st ps) (S : FnScope N ps (C8.fnScope st))
    (len : ∀ vs H Q E, sp vs H Q E → vs.length = ps.length)
    (hbody : ∀ (f : Addr) (cdv : Value) (A : Around) (outer : List Env) (s : Shared) (H : Hp) (vs : List V) (Q : VK) (E : XK), Room k (A.deeper (envOfC q (C8.fnScope st) s.heap.objs.size f cdv)) → sp vs H Q E →
      ∃ t, PSs (cxOf C8.CX0 P w K mg base N q (C8.fnScope st) f cdv A outer s H E).nox (C8.fnBody st) t ∧ t { nx := fun _ H' => Q .non H', rt := Q } (start N vs) H) : C8.Mak P w K mg base (k + 1) x C sp [] := by
  obtain ⟨f, fd, F, me, b⟩ := D.ex
  exact C8.mak0 ⟨c.makes, me.at_, me.fn, c.kp⟩ c.mgC F b .nil S len (hbody f)
end
end CK
namespace CK
open PySem L2
theorem noA {K : PySem.W.Frag} {mg : Str → Option Value} {x : Str} {C : Addr} (_ : ClF K mg x C) (f : Str) (h : PySem.W.findIn K (.ref C) f = some none) : NoAttr K C f := h
end CK

set_option Elab.async false
set_option linter.all false
set_option maxRecDepth 100000
set_option maxHeartbeats 2000000
/-! texts by their code points -/
namespace CK
open PySem PySem.Spec PyProof.Rows L2 SX
theorem rev_S (z : List Nat) : (⟨((Builtin.Str.strSliceIndices none none (-1) (S z).length).filterMap ((S z).cps[·]?)).toArray⟩ : Str) = S z.reverse := by
  refine TL.ext_tl ?_
  show ((Builtin.Str.strSliceIndices none none (-1) (S z).length).filterMap ((S z).cps[·]?)).toArray.toList = z.reverse
  rw [List.toList_toArray, S_len, picked_rev, filterMap_get, List.map_map]
  · refine List.ext_getElem (by simp) fun i h1 h2 => ?_
    have hi : i < z.length := by simpa using h1
    rw [List.getElem_map, List.getElem_range, List.getElem_reverse]
    show (S z).cps.getD (z.length - 1 - i) 0 = _
    have : z.length - 1 - i < z.length := by omega
    simp [Array.getD, S, this]
  · intro i hi
    obtain ⟨k, hk, rfl⟩ := List.mem_map.mp hi
    have := List.mem_range.mp hk
    show z.length - 1 - k < z.length
    omega
section
variable {X : Cx}
/-- s[::-1] -/
def tRevS (te : TE) : TE := fun σ H Q => te σ H fun x H1 => ∃ z : List Nat, x = .str (S z) ∧ z.length ≤ sizeLine ∧ Q (.str (S z.reverse)) H1
theorem pe_revS {e : Expr} {te : TE} {k : Nat} {p1 p2 p3 pos : Pos} (he : PE X e te) : PE X (.Subscript e (.Slice none none (some (.UnaryOp .USub (.Constant (.int 1) k p1) p2)) p3) pos) (tRevS te) := by
  refine ⟨fun pins s σ H Q I h => ?_⟩
  refine Subscript_ (thn (he.run pins s σ H _ I h) fun v s1 ⟨x, H1, I1, r1, q1⟩ => ?_)
  obtain ⟨z, ex, hz, q⟩ := q1
  subst ex
  obtain ⟨t, rfl⟩ := r1
  have hst : PO X (some (.UnaryOp .USub (.Constant (.int 1) k p1) p2)) (tPart (tUn (rU fun i => .int (-i)) (tC (.int 1)))) := po_some (pe_un un_neg pe_int)
  refine wpAny_Slice (thn (po_none.run pins s1 σ H1 (fun o H2 => o = none ∧ H2 = H1) I1 ⟨rfl, rfl⟩) fun vl s2 ⟨l, H2, I2, pl, el, e2⟩ => ?_)
  subst el e2
  refine thn (po_none.run pins s2 σ H2 (fun o H3 => o = none ∧ H3 = H2) I2 ⟨rfl, rfl⟩) fun vu s3 ⟨u, H3, I3, pu, eu, e3⟩ => ?_
  subst eu e3
  refine thn (hst.run pins s3 σ H3 (fun o H4 => o = some (-1) ∧ H4 = H3) I3 ⟨1, rfl, -1, rfl, rfl, rfl⟩) fun vs s4 ⟨o, H4, I4, ps, eo, e4⟩ => ?_
  subst eo e4
  have I5 : Inv X pins σ H4 { s4 with heap := s4.heap.push { cls := .type "slice", data := .fields #[vl, vu, vs] } } := I4.kept (t' := s4.toks) fun b ob q => Heap.get?_push_of_some _ q
  show wpAny (model X.prog X.w) X.A (subscriptTail e (.Slice none none (some (.UnaryOp .USub (.Constant (.int 1) k p1) p2)) p3) (.str (S z) t) (.ref s4.heap.objs.size)) (EP X pins σ Q) X.xe { s4 with heap := s4.heap.push { cls := .type "slice", data := .fields #[vl, vu, vs] } }
  refine tail_any (ops := [.str (S z) t, .ref s4.heap.objs.size]) (typeIs_str _ _ _) F.slot_str_getitem.lookup ?_ (by with_unfolding_all rfl)
  obtain ⟨l, rfl, el⟩ := IsPart.raw pl
  obtain ⟨u, rfl, eu⟩ := IsPart.raw pu
  obtain ⟨st, rfl, es⟩ := IsPart.raw ps
  refine wpAny_getItem_str_slice (l := l) (u := u) (st := st) ⟨_, Heap.get?_push_size _ rfl, rfl, rfl⟩ (by rw [es]; decide) ?_
  unfold sliceMade slicePicked
  rw [es, el, eu]
  have hr := rev_S z
  show Made.post (.str ⟨((Builtin.Str.strSliceIndices none none (-1) (S z).length).filterMap ((S z).cps[·]?)).toArray⟩) _ _
  rw [hr]
  exact ⟨by rw [S_len, List.length_reverse]; exact hz, .str _, H4, I5.tok _, ⟨_, rfl⟩, q⟩
/-- s * n -/
theorem foldl_arr {α : Type} : ∀ (n : Nat) (w : Array α) (acc : Array α), ((List.replicate n w).foldl (fun a b => a ++ b) acc).toList = acc.toList ++ (List.replicate n w.toList).flatten
  | 0, _, _ => by simp
  | n + 1, w, acc => by
    rw [List.replicate_succ, List.foldl_cons, foldl_arr n w (acc ++ w), List.replicate_succ, List.flatten_cons, Array.toList_append, List.append_assoc]
theorem op_repS : OpR X (binaryOp .Mult) (fun x y H Q => ∃ (z : List Nat) (n : Nat), x = .str (S z) ∧ y = .int n ∧ n ≤ 1000 ∧ z.length ≤ 1000 ∧ Q (.str (S (List.replicate n z).flatten)) H) := by
  intro pins s σ H x y v u Q I rx ry h
  obtain ⟨z, n, rfl, rfl, hn, hz, q⟩ := h
  obtain ⟨t, rfl⟩ := rx
  obtain ⟨t', rfl⟩ := ry
  have hl : (List.replicate n z).flatten.length = n * z.length := by simp
  have hm : n * z.length ≤ 1000 * 1000 := Nat.mul_le_mul hn hz
  refine P.mul_str (by simp; omega) (fun h1 h2 => ?_) (fun h1 h2 => ?_) ?_
  · rw [S_len]
    have hn0 : (0 : Int) < n := by omega
    have h3 : (1000 : Int) ≤ (2 ^ 63 - 1) / (n : Int) := by
      refine (Int.le_ediv_iff_mul_le hn0).mpr ?_
      have : (1000 : Int) * n ≤ 1000 * 1000 := Int.mul_le_mul_of_nonneg_left (by omega) (by decide)
      omega
    omega
  · rw [S_len, Int.toNat_natCast, Nat.mul_comm]
    have : n * z.length ≤ sizeLine := by rw [sizeLine_eq]; omega
    unfold Builtin.Str.tooLong
    simp
    omega
  · by_cases h1 : (n : Int) < 1
    · rw [if_pos h1]
      have e : n = 0 := by omega
      subst e
      exact ⟨by decide, .str _, H, I.tok _, ⟨_, rfl⟩, q⟩
    · rw [if_neg h1]
      by_cases h2 : ((n : Int) == 1 || (S z).length == 0) = true
      · rw [if_pos h2]
        have e : (List.replicate n z).flatten = z := by
          rw [Bool.or_eq_true, beq_iff_eq, beq_iff_eq, S_len] at h2
          rcases h2 with h2 | h2
          · have : n = 1 := by omega
            subst this
            simp
          · rw [List.length_eq_zero_iff.mp h2]
            simp
        rw [e] at q
        exact ⟨.str _, H, I, ⟨_, rfl⟩, q⟩
      · rw [if_neg h2]
        have e : (⟨(List.replicate (n : Int).toNat (S z).cps).foldl (· ++ ·) #[]⟩ : Str) = S (List.replicate n z).flatten := by
          refine TL.ext_tl ?_
          show ((List.replicate (n : Int).toNat (S z).cps).foldl (· ++ ·) #[]).toList = _
          rw [Int.toNat_natCast, foldl_arr]
          rfl
        rw [e]
        exact ⟨by rw [S_len, hl, sizeLine_eq]; omega, .str _, H, I.tok _, ⟨_, rfl⟩, q⟩
/-- a % b, a // b of natural numbers -/
theorem fmodN (k n : Nat) : Int.fmod (k : Int) (n : Int) = ((k % n : Nat) : Int) := by
  rw [Int.fmod_eq_emod_of_nonneg _ (by omega)]
  rfl
theorem op_modZ : OpR X (binaryOp .Mod) (fun x y H Q => ∃ (k n : Nat), x = .int k ∧ y = .int n ∧ n ≠ 0 ∧ Q (.int ((k % n : Nat) : Int)) H) := by
  intro pins s σ H x y v u Q I rx ry h
  obtain ⟨k, n, e1, e2, h0, q⟩ := h
  refine op_modN pins s σ H x y v u Q I rx ry ⟨_, _, e1, e2, by omega, ?_⟩
  rw [← fmodN] at q
  exact q
theorem op_fdivZ : OpR X (binaryOp .FloorDiv) (fun x y H Q => ∃ (k n : Nat), x = .int k ∧ y = .int n ∧ n ≠ 0 ∧ n < 2 ^ 29 ∧ Q (.int ((k / n : Nat) : Int)) H) := by
  intro pins s σ H x y v u Q I rx ry h
  obtain ⟨k, n, e1, e2, h0, h1, q⟩ := h
  refine op_fdivN pins s σ H x y v u Q I rx ry ⟨_, _, e1, e2, ⟨by omega, by omega⟩, ?_⟩
  have : Int.fdiv (k : Int) (n : Int) = ((k / n : Nat) : Int) := by
    rw [Int.fdiv_eq_ediv_of_nonneg _ (by omega)]
    rfl
  rw [← this] at q
  exact q
theorem op_mulZ : OpR X (binaryOp .Mult) (fun x y H Q => ∃ (k n : Nat), x = .int k ∧ y = .int n ∧ k < 2 ^ 1000 ∧ n < 2 ^ 1000 ∧ Q (.int ((k * n : Nat) : Int)) H) := by
  intro pins s σ H x y v u Q I rx ry h
  obtain ⟨k, n, e1, e2, h0, h1, q⟩ := h
  refine op_mulW pins s σ H x y v u Q I rx ry ⟨_, _, e1, e2, wide_mul (a := 1000) (b := 1000) h0 h1 (by decide) (by decide) (by decide), ?_⟩
  rw [Int.natCast_mul] at q
  exact q
/-- len of a list that is tracked (it may stand in a comprehension) -/
theorem call_lenH : CallR X (.builtin "len") (fun xs H Q => ∃ (p : Addr) (ys : List V), xs = [.ref p] ∧ H p = some (.lst ys) ∧ Q (.int (ys.length : Nat)) H) := by
  intro pins s σ H xs us Q I r h
  obtain ⟨p, ys, e, hp, q⟩ := h
  exact call_len_seq pins s σ H xs us Q I r ⟨p, ys, e, .inl (.inl (.inl hp)), q⟩
end
end CK

set_option Elab.async false
set_option linter.all false
set_option maxRecDepth 100000
set_option maxHeartbeats 2000000
/-! any of a tuple of numbers -/
namespace CK
open PySem PySem.Spec PyProof.Rows L2 SX
theorem plain_ints : ∀ ns : List Int, PyData.plainAll (ns.map PyData.int) = true
  | [] => by simp [PyData.plainAll]
  | n :: ns => by
    rw [List.map_cons, PyData.plainAll, plain_ints ns]
    simp [PyData.plain]
theorem any_ints (ns : List Nat) : ((ns.map fun n : Nat => ((n : Nat) : Int)).map PyData.int).any PyData.truthy = ns.any fun x => decide (x ≠ 0) := by
  induction ns with
  | nil => rfl
  | cons n ns ih =>
    rw [List.map_cons, List.map_cons, List.any_cons, List.any_cons, ih]
    congr 1
    show ((n : Int) != 0) = decide (n ≠ 0)
    by_cases h : n = 0
    · subst h
      rfl
    · rw [decide_eq_true h, bne_iff_ne]
      omega
section
variable {X : Cx}
theorem cr_anyN (hc : X.calm = true) : CallR X (.builtin "any") (fun vs H Q => ∃ (a : Addr) (ns : List Nat), vs = [V.ref a] ∧ H a = some (.tup (ns.map fun n : Nat => V.int (n : Nat))) ∧ Q (.bl (ns.any fun x => decide (x ≠ 0))) H) := by
  intro pins s σ H vs us Q I r h
  obtain ⟨a, ns, rfl, ha, q⟩ := h
  obtain ⟨its, rv, hT, _⟩ := I.tuple (.inl (.inl ha))
  rw [Vals.ref1 r]
  have e : (ns.map fun n : Nat => V.int (n : Nat)) = (ns.map fun n : Nat => ((n : Nat) : Int)).map V.int := by
    rw [List.map_map]
    rfl
  rw [e] at rv
  obtain ⟨as, hr⟩ := Dp.readsAll I _ _ its (dpAll_ints _) rv
  refine PySem.W.any_tuple_data (I.ok.hd hc) hT (by rw [List.toList_toArray]; exact hr) (plain_ints _) (fun x hx => ?_) fun h' tk hk => ?_
  · obtain ⟨i, _, rfl⟩ := List.mem_map.mp hx
    trivial
  · rw [any_ints]
    exact ⟨.bl _, H, I.kept (t' := tk) hk, rfl, q⟩
end
end CK
namespace CK
open PySem PySem.Spec PyProof.Rows L2 SX
section
variable {X : Cx}
/-- a whole number and a Boolean -/
theorem op_addB : OpR X (binaryOp .Add) (fun x y H Q => ∃ (i : Int) (b : Bool), x = .int i ∧ y = .bl b ∧ Q (.int (i + if b = true then (1 : Int) else 0)) H) := by
  intro pins s σ H x y v u Q I rx ry h
  obtain ⟨i, b, rfl, rfl, q⟩ := h
  obtain ⟨t, rfl⟩ := rx
  obtain rfl : u = Value.bool b := ry
  exact add_int_bool ⟨.int _, H, I.tok _, ⟨_, rfl⟩, q⟩
end
end CK
namespace CK
open PySem PySem.Spec PyProof.Rows L2 SX
theorem vals_of_get : ∀ (vs : List V) (us : List Value), us.length = vs.length → (∀ (j : Nat) (v : V) (u : Value), vs[j]? = some v → us[j]? = some u → RelV v u) → Vals vs us
  | [], [], _, _ => .nil
  | [], _ :: _, h, _ => by simp at h
  | _ :: _, [], h, _ => by simp at h
  | v :: vs, u :: us, h, g => .cons (g 0 v u rfl rfl) (vals_of_get vs us (by simpa using h) fun j a b ha hb => g (j + 1) a b (by simpa using ha) (by simpa using hb))
section
variable {X : Cx}
/-- list(text): its letters -/
theorem call_listS (hc : X.calm = true) : CallR X (.type "list") (fun xs H Q => ∃ z : List Nat, xs = [.str (S z)] ∧ z.length ≤ 1000000 ∧ ∀ l, H l = none → Q (.ref l) (upd H l (.lst (z.map fun c => V.str (S [c]))))) := by
  intro pins s σ H xs us Q I r h
  obtain ⟨z, rfl, hz, q⟩ := h
  obtain ⟨u, rfl, rx⟩ := vals1 r
  obtain ⟨t, rfl⟩ := rx
  have sz : (S z).cps.size = z.length := S_len z
  refine call_list_str (I.ok.hd hc) (S z) t (fun h' tk acc' c' hk hS hacc => ?_) (by rw [sz, sizeLine_eq]; omega)
  refine ⟨.ref s.heap.objs.size, upd H s.heap.objs.size (.lst (z.map fun c => V.str (S [c]))), I.laid (t' := tk) hk (Nat.le_refl _) ?_, rfl, q _ (I.hok.fresh (Nat.le_refl _))⟩
  refine ⟨by rw [List.length_map, sizeLine_eq]; omega, acc'.toList, c', vals_of_get _ _ (by rw [List.length_map, Array.length_toList, hacc.1, sz]) fun j v u hv hu => ?_, by simpa using hS⟩
  obtain ⟨c, tt, hc', rfl⟩ := hacc.2 j u (by simpa using hu)
  rw [List.getElem?_map] at hv
  have e : z[j]? = some c := by
    have : (S z).cps[j]? = some c := hc'
    simpa [S] using this
  rw [e] at hv
  cases hv
  exact ⟨tt, rfl⟩
end
end CK
namespace CK
open PySem PySem.Spec PyProof.Rows L2 SX
section
variable {X : Cx} {o e : Expr} {es : List Expr} {to : TE} {t : TA} {name : Str} {apos cpos : Pos} {T id : String} {r : V → List V → Hp → VK → Prop}
/-- a built-in's method, where the written part is told apart (it may stand in a comprehension) -/
theorem pe_bmB {K : PySem.W.Frag} (hK : X.K = K) (pa : PlainAttrs T) (slot : Slot T name id) (hty : typeOf (.builtin id) = pure (.type "method_descriptor")) (hm : MtR X id r) (ho : PE X o to) (ha : PA X (e :: es) t)
    (hb : attributeBase o name X.env (eval o X.env) = eval o X.env := by rfl)
    (hf : ((backTo cpos (starEach (e :: es) X.env)).all (fun x => !x.1) && (backToKw cpos (keywordEach [] X.env)).all (fun x => x.1.isSome) && decide ((e :: es).length + ([] : List Keyword).length + (if ([] : List Keyword).isEmpty then 0 else 1) < 30)) = true := by rfl)
    (hl : (apos.endLine == cpos.line) = true := by rfl) (hs : starEach (e :: es) X.env = (false, eval e X.env) :: starEach es X.env := by rfl) (hp : (backTo cpos (starEach es X.env)).any (·.1) = false := by rfl) :
    PE X (.Call (.Attribute o name apos) (e :: es) [] cpos) (tBM K T r to t) := by
  subst hK
  exact pe_bm pa slot hty hm ho ha hb hf hl hs hp
end
end CK

set_option Elab.async false
set_option linter.all false
set_option maxRecDepth 100000
set_option maxHeartbeats 2000000
/-! defs that are called with no repr under way; repr of data -/
namespace CK
open PySem PySem.Spec PyProof.Rows L2
/-- what a def promises where no repr is under way -/
structure FnG (P : Program) (w : World) (K : PySem.W.Frag) (mg : Str → Option Value) (base : Heap) (k : Nat) (f : Addr) (fd : FuncData) (ps : List Str) (sp : Sp) : Prop where
  len : ∀ vs H Q E, sp vs H Q E → vs.length = ps.length
  go : ∀ (A : Around) (outer : List Env) (z : Shared) (H : Hp) (args : Args) (us : List Value) (vs : List V) (Q : VK) (E : XK), Room k A → A.guards = some [] → Env0 P w K mg base A outer z H → BindsTo z fd args (ps.zip us) →
    Vals vs us → sp vs H Q E → codeAny (model P w) A (.call (.ref f) args) (CR C8.CX0 outer P w H z Q E) z
theorem FnG.of {P : Program} {w : World} {K : PySem.W.Frag} {mg : Str → Option Value} {base : Heap} {k : Nat} {f : Addr} {fd : FuncData} {ps : List Str} {sp : Sp} (F : FnOk P w K mg base C8.CX0 k f fd ps sp) : FnG P w K mg base k f fd ps sp :=
  ⟨F.len, fun A outer z H args us vs Q E hr _ e0 hb r h => F.run A outer z H args us vs Q E hr e0 hb r h⟩
theorem fnG_of {P : Program} {w : World} {K : PySem.W.Frag} {mg : Str → Option Value} {base : Heap} {k : Nat} {f : Addr} {x : Str} {st : Stmt} {fd : FuncData} {N ps : List Str} {sp : Sp} (F : C8.Fun K x x st f fd) (S : FnScope N ps (C8.fnScope st))
    (len : ∀ vs H Q E, sp vs H Q E → vs.length = ps.length)
    (body : ∀ (cdv : Value) (A : Around) (outer : List Env) (z : Shared) (H : Hp) (vs : List V) (Q : VK) (E : XK), Room k (A.deeper (envOfC x (C8.fnScope st) z.heap.objs.size f cdv)) → A.guards = some [] → sp vs H Q E →
      ∃ t, PSs (cxOf C8.CX0 P w K mg base N x (C8.fnScope st) f cdv A outer z H E).nox (C8.fnBody st) t ∧ t { nx := fun _ H' => Q .non H', rt := Q } (start N vs) H) : FnG P w K mg base (k + 1) f fd ps sp := by
  obtain ⟨_, _, _, _, _, _, _, cdv, _, _, rfl, lk, hc⟩ := F.ex
  refine ⟨len, fun A outer z H args us vs Q E room gd en bnd va want => ?_⟩
  have ln := len _ _ _ _ want
  have up : ∀ b o, base.get? b = some o → z.heap.get? b = some o := fun b o e => (en.bs b o e).1
  have inK : K.In z.heap := en.mod.kin.keeps up
  have kinds : ∀ y ∈ ps.zip us, (C8.fnScope st).names.lookup y.1 = some .local ∨ ((C8.fnScope st).names.lookup y.1 = some .cell ∧ ((cellsFrom (z.heap.objs.size + 1) (C8.fnScope st).names []).lookup y.1).isSome = true) := by
    intro y hy
    have := S.par y.1 (List.of_mem_zip (a := y.1) (b := y.2) hy).1
    cases this with
    | inl a => exact .inl a
    | inr a => exact .inr ⟨a, PySem.W.cellsFrom_some _ _ _ (.inl a)⟩
  refine codeAny_call_function room.depth (inK _ _ lk) rfl S.co S.gen rfl (PySem.W.codeRec_of inK hc) (bnd _ _ _ _ (wpAny_newFunctionEnv_cells S.kind kinds fun env he z1 call => ?_))
  subst he
  refine ⟨(en.mod.nolimit.keeps up).keeps call.toInCall.keep, codeAny_func ?_⟩
  obtain ⟨t, ht, ok⟩ := body cdv A outer z H vs Q E (room.deeper _) gd want
  refine wpAny_mono (ht.nox.run [] z1 (start N vs) H _ (inv_start S room.hd en ln va call) ok) (fun fl z' got => ?_) fun e z' got => got
  have last : ∀ {σ' : L2.St} {H' : Hp} {v : V} {u : Value}, Inv (cxOf C8.CX0 P w K mg base N x (C8.fnScope st) f cdv A outer z H E) [] σ' H' z' → RelV v u → Q v H' → CE outer P w H z Q u z' :=
    fun {_ H' v _} J a b => ⟨v, H', J.os, J.bare, J.base, J.hok, a, b⟩
  cases fl with
  | ret u =>
    obtain ⟨v, _, H', J, a, b⟩ := got
    exact last J a b
  | next =>
    obtain ⟨_, H', J, b⟩ := got
    exact last (v := V.non) (u := Value.none) J rfl b
  | brk => exact got.choose_spec.choose_spec.2.elim
  | cont => exact got.choose_spec.choose_spec.2.elim
/-- a def by its name -/
structure CalG (P : Program) (w : World) (K : PySem.W.Frag) (mg : Str → Option Value) (base : Heap) (k : Nat) (x : Str) (sp : Sp) : Prop where
  ex : ∃ (f : Addr) (fd : FuncData) (ps : List Str), FnG P w K mg base k f fd ps sp ∧ mg x = some (.ref f) ∧ PySem.W.keepIn K (.ref f) = true ∧ Binds K fd ps []
theorem calG {P : Program} {w : World} {K : PySem.W.Frag} {mg : Str → Option Value} {base : Heap} {x : Str} {st : Stmt} {N ps : List Str} {k : Nat} {sp : Sp} (D : DefF K mg x st ps) (S : FnScope N ps (C8.fnScope st))
    (len : ∀ vs H Q E, sp vs H Q E → vs.length = ps.length)
    (body : ∀ (f : Addr) (cdv : Value) (A : Around) (outer : List Env) (z : Shared) (H : Hp) (vs : List V) (Q : VK) (E : XK), Room k (A.deeper (envOfC x (C8.fnScope st) z.heap.objs.size f cdv)) → A.guards = some [] → sp vs H Q E →
      ∃ t, PSs (cxOf C8.CX0 P w K mg base N x (C8.fnScope st) f cdv A outer z H E).nox (C8.fnBody st) t ∧ t { nx := fun _ H' => Q .non H', rt := Q } (start N vs) H) : CalG P w K mg base (k + 1) x sp := by
  obtain ⟨f, fd, F, b⟩ := D.ex
  exact ⟨f, fd, ps, fnG_of F.fn S len (body f), F.mgf, F.kp, .all b⟩
section
variable {X : Cx} {k j : Nat} {x : Str} {sp : Sp} {p pos : Pos} {e : Expr} {es : List Expr} {t : TA}
theorem run_fnG {pins : List (Addr × Obj)} {σ : L2.St} {H : Hp} {z : Shared} {Q : VK} {us : List Value} {vs : List V} {f : Addr} {fd : FuncData} {ps : List Str} (F : FnG X.prog X.w X.K X.mg X.base k f fd ps sp) (room : Room k X.A) (gd : X.A.guards = some [])
    (b : Binds X.K fd ps []) (I : Inv X pins σ H z) (r : Vals vs us) (h : sp (vs ++ []) H Q E0) : wpAny (model X.prog X.w) X.A (call (.ref f) us) (EP X pins σ Q) X.xe z := by
  rw [List.append_nil] at h
  have ll : (us ++ []).length = ps.length := by
    rw [List.append_nil, ← r.length]
    exact F.len _ _ _ _ h
  have bb := b z us I.kIn ll
  rw [List.append_nil] at bb
  refine wpAny_call (codeAny_mono (F.go X.A X.stack z H ⟨us, []⟩ us vs Q E0 room gd I.env0 bb r h) fun res z' got => ?_)
  match res, got with
  | .ok (.ret u), got => exact I.after got
  | .error e, got => exact pass0 pins σ H z e z' I got
theorem pe_cG (c : CalG X.prog X.w X.K X.mg X.base k x sp) (hr : Room j X.A) (gd : X.A.guards = some []) (hk : k ≤ j) (hg : Gl X x) (ha : PA X (e :: es) t)
    (hdb : (x == ("__debug__" : Str)) = false := by decide) (he : starEach (e :: es) X.env = (false, eval e X.env) :: starEach es X.env := by rfl) (hpl : (backTo pos (starEach es X.env)).any (·.1) = false := by rfl) :
    PE X (.Call (.Name x p) (e :: es) [] pos) (tCall sp [] E0 t) := by
  obtain ⟨f, fd, ps, F, hm, kp, b⟩ := c.ex
  refine ⟨fun pins s σ H Q I h => wpAny_Call_Name_kw (ld_glob I hg hm ?_ hdb)⟩
  exact PySem.W.callWith_K (h₀ := X.base) I.ok.mod.kin kp (thn (ha.run pos pins s σ H _ I h) fun us s1 ⟨vs, H1, I1, r, q⟩ => ⟨I1.kIn, run_fnG F (hr.mono hk) gd b I1 r q⟩) he hpl
theorem pe_cG0 (c : CalG X.prog X.w X.K X.mg X.base k x sp) (hr : Room j X.A) (gd : X.A.guards = some []) (hk : k ≤ j) (hg : Gl X x)
    (hdb : (x == ("__debug__" : Str)) = false := by decide) :
    PE X (.Call (.Name x p) [] [] pos) (tCall sp [] E0 tNil) := by
  obtain ⟨f, fd, ps, F, hm, kp, b⟩ := c.ex
  refine ⟨fun pins s σ H Q I h => wpAny_Call_Name_kw (ld_glob I hg hm ?_ hdb)⟩
  exact PySem.W.callWith_K0 I.kIn kp (run_fnG (us := []) F (hr.mono hk) gd b I .nil h)
/-- repr of data -/
theorem call_repr (hr : Room j X.A) (gd : X.A.guards = some []) : CallR X (.builtin "repr") (fun xs H Q => ∃ (v : V) (d : PyData), xs = [v] ∧ Dp X.K H v d ∧ d.showable = true ∧ d.hasDict = false ∧ d.depth ≤ 60 ∧ d.shown.length ≤ sizeLine ∧ Q (.str d.shown) H) := by
  intro pins s σ H xs us Q I r h
  obtain ⟨v, d, rfl, dp, hs, hd, hdep, hz, q⟩ := h
  obtain ⟨u, rfl, rx⟩ := vals1 r
  obtain ⟨as, rd⟩ := Dp.reads I d v u dp rx
  have hu := hr.units
  have fin : ∀ (a : Addr) (d : PyData), Reads s.heap (.ref a) d as → d.showable = true → d.hasDict = false → d.depth ≤ 60 → d.shown.length ≤ sizeLine → Q (.str d.shown) H →
      wpAny (model X.prog X.w) X.A (call (.builtin "repr") [.ref a]) (EP X pins σ Q) X.xe s := fun a d rd hs hd hdep hz q =>
    repr_of_reads' rd hs (PyData.noDict_hsm hd) gd (by omega) (fun _ _ e => e) (fun h' u tk hk => ⟨.str _, H, I.kept (t' := tk) hk, ⟨u, rfl⟩, q⟩) hz
  cases rd with
  | none => exact PySem.P.repr_of_none ⟨.str _, H, I.tok _, ⟨_, rfl⟩, by simpa only [PyData.shown] using q⟩
  | bool b => exact PySem.P.repr_of_bool ⟨.str _, H, I.tok _, ⟨_, rfl⟩, by simpa only [PyData.shown] using q⟩
  | int i t => exact PySem.P.repr_of_int (by simpa [PyData.showable] using hs) ⟨.str _, H, I.tok _, ⟨_, rfl⟩, by simpa only [PyData.shown] using q⟩
  | str y t => exact PySem.P.repr_of_str ⟨.str _, H, I.tok _, ⟨_, rfl⟩, by simpa only [PyData.shown] using q⟩ (by simpa only [PyData.shown] using hz)
  | list a b c e => exact fin _ _ (.list a b c e) hs hd hdep hz q
  | tuple a b c e => exact fin _ _ (.tuple a b c e) hs hd hdep hz q
  | dict a b c e g => exact fin _ _ (.dict a b c e g) hs hd hdep hz q
end
end CK

set_option Elab.async false
set_option linter.all false
set_option maxRecDepth 100000
set_option maxHeartbeats 2000000
/-! comprehensions with a test; equality of data made of whole numbers -/
namespace CK
open PySem PySem.Spec PyProof.Rows L2
/-- n turns, each kept if b i, giving f i, leaving all that was tracked -/
theorem lc_filtW {J : It} {n : Nat} {G : Hp → Prop} {Y : Nat → Hp → V → Hp → Prop} (w : Walk J n G Y) {g : TG} {tt : TT} {te : TE} {vs : List Nat} {σ : L2.St} {H1 : Hp} {D : Addr} {Qd : Hp → Prop} (b : Nat → Bool) (f : Nat → V) (hn : n < sizeLine)
    (hG : ∀ H, Same H1 H → G H)
    (hs : ∀ (i : Nat) (x : V) (H H' : Hp) (R : VK) (R0 : Hp → Prop), i < n → Same H1 H → Y i H x H' → (b i = true → ∀ H'', Same H H'' → R (f i) H'') → (b i = false → ∀ H'', Same H H'' → R0 H'') →
      g x (wipe σ vs) H' fun σ2 H2 => wipe σ2 vs = wipe σ vs ∧ tt σ2 H2 fun c H3 => if c = true then te σ2 H3 R else R0 H3)
    (hD : H1 D = none) (hd : ∀ H : Hp, Same H1 H → H D = some (.lst (((List.range n).filter b).map f)) → Qd H) :
    ∃ W : Nat → Nat → Hp → Prop, (∃ m, W 0 m (upd H1 D (.lst []))) ∧ ∀ i m H, W i m H →
      (J.stop i H ∧ Qd H) ∨ (J.go i H ∧ ∃ Nx : Hp → Prop, (∀ H', Nx H' → ∃ m', m' < m ∧ W (i + 1) m' H') ∧ ∀ x H', J.yld i H x H' → g x (wipe σ vs) H' fun σ2 H2 => wipe σ2 vs = wipe σ vs ∧ tt σ2 H2 fun b H3 =>
        if b = true then te σ2 H3 fun y H4 => ∃ acc, H4 D = some (.lst acc) ∧ acc.length < sizeLine ∧ Nx (upd H4 D (.lst (acc ++ [y]))) else Nx H3) := by
  refine lc_it w (fun i H => Same H1 H ∧ H D = some (.lst (((List.range i).filter b).map f)) ∧ i ≤ n) ⟨sameNew hD, upd_same, Nat.zero_le _⟩ (fun i H _ p => hG H p.1) (fun i x H H' hi p y => ?_) fun H p => hd H p.1 p.2.1
  refine hs i x H H' _ _ hi p.1 y (fun hb H'' s => ?_) fun hb H'' s => ?_
  · refine ⟨_, s D _ p.2.1, ?_, same_upd2 hD (p.1.trans s), ?_, hi⟩
    · have := List.length_filter_le b (List.range i)
      rw [List.length_range] at this
      rw [List.length_map]
      omega
    · rw [upd_same, List.range_succ, List.filter_append, List.map_append, List.filter_cons_of_pos hb]
      rfl
  · refine ⟨p.1.trans s, ?_, hi⟩
    rw [s D _ p.2.1, List.range_succ, List.filter_append, List.filter_cons_of_neg (by rw [hb]; exact Bool.false_ne_true), List.filter_nil, List.append_nil]
theorem filt_nil (b : Nat → Bool) (f : Nat → V) (n : Nat) : ((List.range n).filter b).map f = [] ↔ ∀ i, i < n → b i = false := by
  rw [List.map_eq_nil_iff, List.filter_eq_nil_iff]
  constructor
  · intro h i hi
    have := h i (List.mem_range.mpr hi)
    simpa using this
  · intro h i hi
    rw [h i (List.mem_range.mp hi)]
    exact Bool.false_ne_true
/-- over zip -/
theorem lcZ_filt {K : PySem.W.Frag} {k k' : Kd} {a c : Addr} {xs ys : List V} {i1 i2 : Nat} {tt : TT} {te : TE} {vs : List Nat} {σ : L2.St} {H1 : Hp} {D : Addr} {Qd : Hp → Prop} (b : Nat → Bool) (f : Nat → V) (hl : xs.length = ys.length) (hn : xs.length < sizeLine)
    (ha : ∀ H, Same H1 H → SqB K k H a xs ∧ SqB K k' H c ys)
    (hs : ∀ (i : Nat) (x y : V) (H : Hp) (R : VK) (R0 : Hp → Prop), xs[i]? = some x → ys[i]? = some y → Same H1 H → (b i = true → ∀ H', Same H H' → R (f i) H') → (b i = false → ∀ H', Same H H' → R0 H') →
      wipe (((wipe σ vs).set i1 (some x)).set i2 (some y)) vs = wipe σ vs ∧ tt (((wipe σ vs).set i1 (some x)).set i2 (some y)) H fun c H3 => if c = true then te (((wipe σ vs).set i1 (some x)).set i2 (some y)) H3 R else R0 H3)
    (hD : H1 D = none) (hd : ∀ H : Hp, Same H1 H → H D = some (.lst (((List.range xs.length).filter b).map f)) → Qd H) :
    ∃ W : Nat → Nat → Hp → Prop, (∃ m, W 0 m (upd H1 D (.lst []))) ∧ ∀ i m H, W i m H →
      ((ItB K k k' a c).stop i H ∧ Qd H) ∨ ((ItB K k k' a c).go i H ∧ ∃ Nx : Hp → Prop, (∀ H', Nx H' → ∃ m', m' < m ∧ W (i + 1) m' H') ∧ ∀ x H', (ItB K k k' a c).yld i H x H' → gTup K 2 (gCons (gName i1) (gCons (gName i2) gNil)) x (wipe σ vs) H' fun σ2 H2 => wipe σ2 vs = wipe σ vs ∧ tt σ2 H2 fun b H3 =>
        if b = true then te σ2 H3 fun y H4 => ∃ acc, H4 D = some (.lst acc) ∧ acc.length < sizeLine ∧ Nx (upd H4 D (.lst (acc ++ [y]))) else Nx H3) := by
  refine lc_filtW (walkB (K := K) (k := k) (k' := k') (a := a) (b := c) hl) b f hn ha (fun i v H H' R R0 hi s y q q0 => ?_) hD hd
  obtain ⟨T, x, y, rfl, hT, rfl, hx, hy⟩ := y
  have hx : xs[i]? = some x := hx
  have hy : ys[i]? = some y := hy
  have st : Same H (upd H T (.tup [x, y])) := sameNew hT
  exact ⟨T, [x, y], rfl, .inl (.inl upd_same), rfl, x, [y], rfl, y, [], rfl, rfl, hs i x y _ R R0 hx hy (s.trans st) (fun hb H'' s' => q hb H'' (st.trans s')) fun hb H'' s' => q0 hb H'' (st.trans s')⟩
/-- over a list -/
theorem lcL_filt {K : PySem.W.Frag} {a : Addr} {xs : List V} {j : Nat} {tt : TT} {te : TE} {vs : List Nat} {σ : L2.St} {H1 : Hp} {D : Addr} {Qd : Hp → Prop} (b : Nat → Bool) (f : Nat → V) (ha : ∀ H, Same H1 H → SqL K H a xs) (hn : xs.length < sizeLine)
    (hs : ∀ (i : Nat) (x : V) (H : Hp) (R : VK) (R0 : Hp → Prop), xs[i]? = some x → Same H1 H → (b i = true → ∀ H', Same H H' → R (f i) H') → (b i = false → ∀ H', Same H H' → R0 H') →
      wipe ((wipe σ vs).set j (some x)) vs = wipe σ vs ∧ tt ((wipe σ vs).set j (some x)) H fun c H3 => if c = true then te ((wipe σ vs).set j (some x)) H3 R else R0 H3)
    (hD : H1 D = none) (hd : ∀ H : Hp, Same H1 H → H D = some (.lst (((List.range xs.length).filter b).map f)) → Qd H) :
    ∃ W : Nat → Nat → Hp → Prop, (∃ m, W 0 m (upd H1 D (.lst []))) ∧ ∀ i m H, W i m H →
      ((Itl K a).stop i H ∧ Qd H) ∨ ((Itl K a).go i H ∧ ∃ Nx : Hp → Prop, (∀ H', Nx H' → ∃ m', m' < m ∧ W (i + 1) m' H') ∧ ∀ x H', (Itl K a).yld i H x H' → gName j x (wipe σ vs) H' fun σ2 H2 => wipe σ2 vs = wipe σ vs ∧ tt σ2 H2 fun b H3 =>
        if b = true then te σ2 H3 fun y H4 => ∃ acc, H4 D = some (.lst acc) ∧ acc.length < sizeLine ∧ Nx (upd H4 D (.lst (acc ++ [y]))) else Nx H3) := by
  refine lc_filtW (walk_list (K := K) (a := a) (xs := xs)) b f hn ha (fun i v H H' R R0 hi s y q q0 => ?_) hD hd
  obtain ⟨rfl, hx⟩ := y
  exact hs i v H' R R0 hx s q q0
/-- over a tuple -/
theorem lcT_filt {K : PySem.W.Frag} {a : Addr} {xs : List V} {j : Nat} {tt : TT} {te : TE} {vs : List Nat} {σ : L2.St} {H1 : Hp} {D : Addr} {Qd : Hp → Prop} (b : Nat → Bool) (f : Nat → V) (ha : ∀ H, Same H1 H → SqT K H a xs) (hn : xs.length < sizeLine)
    (hs : ∀ (i : Nat) (x : V) (H : Hp) (R : VK) (R0 : Hp → Prop), xs[i]? = some x → Same H1 H → (b i = true → ∀ H', Same H H' → R (f i) H') → (b i = false → ∀ H', Same H H' → R0 H') →
      wipe ((wipe σ vs).set j (some x)) vs = wipe σ vs ∧ tt ((wipe σ vs).set j (some x)) H fun c H3 => if c = true then te ((wipe σ vs).set j (some x)) H3 R else R0 H3)
    (hD : H1 D = none) (hd : ∀ H : Hp, Same H1 H → H D = some (.lst (((List.range xs.length).filter b).map f)) → Qd H) :
    ∃ W : Nat → Nat → Hp → Prop, (∃ m, W 0 m (upd H1 D (.lst []))) ∧ ∀ i m H, W i m H →
      ((Itt K a).stop i H ∧ Qd H) ∨ ((Itt K a).go i H ∧ ∃ Nx : Hp → Prop, (∀ H', Nx H' → ∃ m', m' < m ∧ W (i + 1) m' H') ∧ ∀ x H', (Itt K a).yld i H x H' → gName j x (wipe σ vs) H' fun σ2 H2 => wipe σ2 vs = wipe σ vs ∧ tt σ2 H2 fun b H3 =>
        if b = true then te σ2 H3 fun y H4 => ∃ acc, H4 D = some (.lst acc) ∧ acc.length < sizeLine ∧ Nx (upd H4 D (.lst (acc ++ [y]))) else Nx H3) := by
  refine lc_filtW (walk_tup (K := K) (a := a) (xs := xs)) b f hn ha (fun i v H H' R R0 hi s y q q0 => ?_) hD hd
  obtain ⟨rfl, hx⟩ := y
  exact hs i v H' R R0 hx s q q0
/-- a tuple of the module's own -/
theorem tupF {K : PySem.W.Frag} {h : Heap} {mg : Str → Option Value} {x : Str} {f : Addr} {o : Obj} {its : Array Value} {n : Nat} {xs : List V} (X : K.In h) (G : h.Ns mainGlobals mg) (a : PySem.W.nsIn K mainGlobals x = some (some (.ref f))) (l : K.lookup f = some o)
    (hc : o.cls = .type "tuple") (hd : o.data = .seq its n) (hs : its.size ≤ sizeLine) (hv : Vals xs its.toList) : ∃ a, mg x = some (.ref a) ∧ ∀ H, SqT K H a xs :=
  ⟨f, PySem.W.mg_of X G a, fun H => .inr ⟨o, its, n, l, hc, hd, hs, hv⟩⟩
abbrev TupF (K : PySem.W.Frag) (mg : Str → Option Value) (x : Str) (xs : List V) : Prop := ∃ a, mg x = some (.ref a) ∧ ∀ H, SqT K H a xs
theorem with_tup {K : PySem.W.Frag} {h : Heap} {mg : Str → Option Value} (_ : K.In h) (x : Str) (xs : List V) {R : Prop} (d : TupF K mg x xs) (r : TupF K mg x xs → R) : R := r d
/-! data of whole numbers -/
theorem eqvAll_ints : ∀ f g : List Int, PyData.eqvAll (f.map PyData.int) (g.map PyData.int) = decide (f = g)
  | [], [] => by simp [PyData.eqvAll]
  | [], _ :: _ => by simp [PyData.eqvAll]
  | _ :: _, [] => by simp [PyData.eqvAll]
  | x :: f, y :: g => by
    rw [List.map_cons, List.map_cons, PyData.eqvAll, eqvAll_ints f g]
    simp [PyData.eqv, Bool.beq_eq_decide_eq]
theorem eqv_dI (f g : List Int) : PyData.eqv (dI f) (dI g) = decide (f = g) := by
  unfold dI
  simp only [PyData.eqv, eqvAll_ints]
def dLI (ns : List Int) : PyData := .list (ns.map PyData.int)
theorem eqv_dLI (f g : List Int) : PyData.eqv (dLI f) (dLI g) = decide (f = g) := by
  unfold dLI
  simp only [PyData.eqv, eqvAll_ints]
theorem shaped_dLI (ns : List Int) : SeqAt.shaped (dLI ns) = true := by
  unfold SeqAt.shaped dLI
  rw [PyData.canLay0, lay_ints, PyData.depth, deep_ints]
  decide
theorem dp_lints {K : PySem.W.Frag} {H : Hp} {a : Addr} {ns : List Int} (h : H a = some (.lst (ns.map V.int))) : Dp K H (.ref a) (dLI ns) := .lst (.inl (.inl h)) (dpAll_ints ns)
/-! repr of whole numbers -/
theorem shown_ints : ∀ ns : List Int, (∀ n ∈ ns, n.natAbs.log2 < 1920) → PyData.showableAll (ns.map PyData.int) = true
  | [], _ => by simp [PyData.showableAll]
  | n :: ns, h => by
    rw [List.map_cons, PyData.showableAll, shown_ints ns fun z hz => h z (List.mem_cons_of_mem _ hz)]
    simp [PyData.showable, h n List.mem_cons_self]
theorem noDict_ints : ∀ ns : List Int, PyData.hasDictAll (ns.map PyData.int) = false
  | [] => by simp [PyData.hasDictAll]
  | n :: ns => by
    rw [List.map_cons, PyData.hasDictAll, noDict_ints ns]
    simp [PyData.hasDict]
theorem piled_ints : ∀ ns : List Int, (∀ n ∈ ns, n.natAbs.log2 < 1920) → piled (PyData.shownAll (ns.map PyData.int)) ≤ ns.length * 1923
  | [], _ => Nat.zero_le _
  | n :: ns, h => by
    have a1 := int_text_length_le (a := n) (k := 1920) (by omega) (h n List.mem_cons_self)
    have a2 := piled_ints ns fun z hz => h z (List.mem_cons_of_mem _ hz)
    have a3 : ((toString n : Str)).length = (toString n).length := PySem.ofString_length _
    have e : PyData.shown (.int n) = (toString n : Str) := by simp only [PyData.shown]
    rw [List.map_cons, PyData.shownAll, piled_cons, List.length_cons, e]
    omega
theorem show_dI {ns : List Int} (h : ∀ n ∈ ns, n.natAbs.log2 < 1920) (hl : ns.length ≤ 100) : (dI ns).showable = true ∧ (dI ns).hasDict = false ∧ (dI ns).depth ≤ 60 ∧ (dI ns).shown.length ≤ sizeLine := by
  refine ⟨?_, ?_, by rw [deep_dI]; decide, ?_⟩
  · unfold dI
    rw [PyData.showable]
    exact shown_ints ns h
  · unfold dI
    rw [PyData.hasDict]
    exact noDict_ints ns
  · unfold dI
    rw [PyData.shown]
    have := fmt_text (PyData.shownAll (ns.map PyData.int))
    have := piled_ints ns h
    have : ns.length * 1923 ≤ 100 * 1923 := Nat.mul_le_mul_right _ hl
    rw [sizeLine_eq]
    omega
theorem log_lt {n : Int} (h : n.natAbs < 2 ^ 1900) : n.natAbs.log2 < 1920 := by
  by_cases z : n.natAbs = 0
  · rw [z]
    decide
  · have := (Nat.log2_lt z).mpr h
    omega
end CK

set_option Elab.async false
set_option linter.all false
set_option maxRecDepth 100000
set_option maxHeartbeats 2000000
/-! statements in order, tests that may end the call -/
namespace CK
open PySem PySem.Spec PyProof.Rows L2
theorem seq_cut {t u : TS} {D : Ends} {σ : L2.St} {H : Hp} (Mid : L2.St → Hp → Prop) (h1 : ∀ K : L2.St → Hp → Prop, (∀ σ' H', Mid σ' H' → K σ' H') → t { D with nx := K } σ H) (h2 : ∀ σ' H', Mid σ' H' → u D σ' H') : tSeq t u D σ H := h1 _ h2
/-- a test whose answer is b: what is within, and what follows -/
theorem if_dec {c : TT} {t u : TS} {D : Ends} {σ : L2.St} {H : Hp} (b : Bool) (h : ∀ R : Bool → Hp → Prop, (∀ H', Same H H' → R b H') → c σ H R)
    (yes : b = true → ∀ H', Same H H' → t { D with nx := fun σ' H'' => u D σ' H'' } σ H') (no : b = false → ∀ H', Same H H' → u D σ H') : tSeq (tIfS c t tNext) u D σ H :=
  h _ fun H' s => by
    cases b with
    | true => exact iteT (yes rfl H' s)
    | false => exact iteF (no rfl H' s)
/-- the last test of a block -/
theorem if_end {c : TT} {t u : TS} {D : Ends} {σ : L2.St} {H : Hp} (b : Bool) (h : ∀ R : Bool → Hp → Prop, (∀ H', Same H H' → R b H') → c σ H R)
    (yes : b = true → ∀ H', Same H H' → t D σ H') (no : b = false → ∀ H', Same H H' → u D σ H') : tIfS c t u D σ H :=
  h _ fun H' s => by
    cases b with
    | true => exact iteT (yes rfl H' s)
    | false => exact iteF (no rfl H' s)
theorem if_not {c : TT} {t u : TS} {D : Ends} {σ : L2.St} {H : Hp} (h : ∀ R : Bool → Hp → Prop, (∀ H', Same H H' → R false H') → c σ H R) (r : ∀ H', Same H H' → u D σ H') : tSeq (tIfS c t tNext) u D σ H :=
  h _ fun H' s => iteF (r H' s)
theorem yes_if {σ : L2.St} {H : Hp} {A B : Hp → Prop} (h : A H) : tYes σ H fun b H3 => if b = true then A H3 else B H3 := by
  show (if true = true then A H else B H)
  exact if_pos rfl ▸ h
end CK

set_option Elab.async false
set_option linter.all false
set_option maxRecDepth 100000
set_option maxHeartbeats 2000000
/-! sum of a tuple of numbers -/
namespace CK
open PySem PySem.Spec PyProof.Rows L2 SX
section
variable {prog : Program} {w : World} {A : Around} {E : Value → Shared → Prop} {s : Shared} {l : Addr} {xs : Array (Int × Tok)}
theorem sum_tupG {Q : Value → Shared → Prop} (hh : A.handled = none) (hl : s.heap.IsTuple l (intItems xs))
    (h : ∀ h' tk t', (∀ b o, s.heap.get? b = some o → h'.get? b = some o) → Q (.int (preSum (numAt xs) xs.size) t') { s with heap := h', toks := tk }) :
    wpAny (model prog w) A (call (.builtin "sum") [.ref l]) Q E s := by
  have hlt : l < s.heap.objs.size := by obtain ⟨_, e, _⟩ := hl; exact Heap.lt_size e
  refine call_sum_walkG (wpAny_pyIter_tuple hl ?_)
  refine ⟨_, _, _, _, _, _, numAt xs, rfl, Walks.tuple (A := A.in1) hh _ l (Nat.ne_of_lt hlt) (intItems xs), ⟨⟨_, Heap.get?_push_size _ rfl, rfl, rfl⟩, hl.push _⟩, fun b hb => ?_, (fun _ _ => intItems_at), fun h' tk t' hk => ?_⟩
  · show b < (s.heap.push _).objs.size
    rw [Heap.size_push]
    rcases List.mem_cons.mp hb with rfl | hb
    · exact Nat.lt_succ_self _
    · rcases List.mem_cons.mp hb with rfl | hb
      · exact Nat.lt_succ_of_lt hlt
      · cases hb
  · have := h h' tk t' fun b o e => by
      refine hk b o (fun hm => ?_) (Heap.get?_push_of_some _ e)
      have := List.mem_singleton.mp hm
      have hb := Heap.lt_size e
      rw [this] at hb
      exact absurd hb (Nat.lt_irrefl _)
    simpa [intItems] using this
end
section
variable {X : Cx}
theorem cr_sumT (hc : X.calm = true) : CallR X (.builtin "sum") (fun vs H Q => ∃ (a : Addr) (ns : List Int), vs = [V.ref a] ∧ H a = some (.tup (ns.map V.int)) ∧ Q (.int ns.sum) H) := by
  intro pins s σ H vs us Q I r h
  obtain ⟨a, ns, rfl, ha, q⟩ := h
  obtain ⟨its, rv, hl, _⟩ := I.tuple (.inl (.inl ha))
  rw [Vals.ref1 r]
  have hi := rv.ints
  obtain ⟨xs, e⟩ := hi.allInts.items
  have hn : numsOf (intItems xs).toList = ns := by rw [← e]; exact hi.numsOf
  rw [nums_intItems] at hn
  have hl' : s.heap.IsTuple a (intItems xs) := by rw [← e]; exact hl
  refine sum_tupG (I.ok.hd hc) hl' fun h' tk t' hk => ?_
  have es : preSum (numAt xs) xs.size = ns.sum := by rw [preSum_eq, List.take_of_length_le (by simp), hn]
  rw [es]
  exact ⟨.int _, H, I.kept (t' := tk) hk, ⟨_, rfl⟩, q⟩
end
end CK

set_option Elab.async false
set_option linter.all false
set_option maxRecDepth 100000
set_option maxHeartbeats 4000000
/-! sorted of any data; sorted(.., key=len) of texts -/
namespace CK
open PySem PySem.Spec PyProof.Rows L2 PySem.W
theorem vals_each : ∀ {xs : List V} {us : List Value}, Vals xs us → EachIs (fun u x => RelV x u) us xs
  | _, _, .nil => .nil
  | _, _, .cons r t => .cons r (vals_each t)
theorem each_vals : ∀ {us : List Value} {xs : List V}, EachIs (fun u x => RelV x u) us xs → Vals xs us
  | _, _, .nil => .nil
  | _, _, .cons r t => .cons r (each_vals t)
section
variable {X : Cx}
/-- sorted(xs), a list of data -/
theorem cr_sortedA (hu : X.A.units + 64 < cLine) : CallR X (.builtin "sorted") (fun vs H Q => ∃ (a : Addr) (xs : List V) (d : V → PyData), vs = [V.ref a] ∧ SqL X.K H a xs ∧ (∀ v ∈ xs, Dp X.K H v (d v)) ∧ AllAlike (xs.map d) ∧ Sortable (xs.map d) ∧ (∀ v ∈ xs, (d v).depth ≤ 60) ∧
    ∀ p, H p = none → Q (.ref p) (upd H p (.lst (xs.mergeSort (dataLe false d))))) := by
  intro pins s σ H vs us Q I r h
  obtain ⟨a, xs, d, rfl, hs, hd, hal, hk, hb, q⟩ := h
  obtain ⟨its, rv, hl, hz⟩ := I.list hs
  rw [Vals.ref1 r]
  have e := vals_each rv
  have er : EachIs (fun v b => ∃ as, Reads s.heap v (d b) as) its xs := by
    have key : ∀ {us : List Value} {ys : List V}, EachIs (fun u x => RelV x u) us ys → (∀ v ∈ ys, v ∈ xs) → EachIs (fun v b => ∃ as, Reads s.heap v (d b) as) us ys := fun h => by
      induction h with
      | nil => intro _; exact .nil
      | cons hr _ ih => intro hm; exact .cons (Dp.reads I _ _ _ (hd _ (hm _ List.mem_cons_self)) hr) (ih fun v hv => hm v (List.mem_cons_of_mem _ hv))
    exact key e fun _ h => h
  refine sorted_data (l := a) (vs := its) (bs := xs) (enc := d) hl.isList e er hal hk hz (fun b hb' => by have := hb b hb'; omega) fun out ho eo => ?_
  obtain ⟨ep, he'⟩ := PyProof.Rows.sortedAll_at s.heap its out.toArray
  have hlen : (xs.mergeSort (dataLe false d)).length ≤ sizeLine := by
    rw [List.length_mergeSort]
    exact hz
  exact ⟨.ref _, upd H (s.heap.objs.size + 1) (.lst (xs.mergeSort (dataLe false d))), I.laid (t' := s.toks) (fun _ _ => PyProof.Rows.sortedAll_old) (Nat.le_succ _) ⟨hlen, out, ep, each_vals eo, he'⟩, rfl, q _ (I.hok.fresh (Nat.le_succ _))⟩
/-- a text's data -/
def dV : V → PyData
  | .str x => .str x
  | _ => .none
theorem alike_strs (zs : List Str) : AllAlike ((zs.map V.str).map dV) := fun d hd d' hd' => by
  rw [List.map_map] at hd hd'
  obtain ⟨x, _, rfl⟩ := List.mem_map.mp hd
  obtain ⟨y, _, rfl⟩ := List.mem_map.mp hd'
  rfl
theorem sortable_strs (zs : List Str) : Sortable ((zs.map V.str).map dV) := .inr fun d hd => by
  rw [List.map_map] at hd
  obtain ⟨x, _, rfl⟩ := List.mem_map.mp hd
  exact ⟨fun h => (nomatch h), fun _ h => (nomatch h)⟩
/-- the order of texts -/
def leS (x y : Str) : Bool := decide (x.cps.toList ≤ y.cps.toList)
theorem sort_strs (zs : List Str) : (zs.map V.str).mergeSort (dataLe false dV) = (zs.mergeSort leS).map V.str := by
  refine (sort_maps V.str fun a _ b _ => ?_).symm
  have := congrFun (congrFun (dataLe_str (β := Str) fun x => x) a) b
  show _ = dataLe false dV (V.str a) (V.str b)
  exact this.symm
/-- sorted(d), a dict whose keys are texts -/
theorem call_sortedDA (hcalm : X.calm = true) (hu : X.A.units + 64 < cLine) : CallR X (.builtin "sorted") (fun xs H Q => ∃ (a : Addr) (kvs : List (Key × V)) (ks : List Str), xs = [.ref a] ∧ Rd H a (.dK kvs) ∧ kvs.map (·.1) = ks.map Sum.inr ∧ ks.length ≤ sizeLine ∧
    ∀ p, H p = none → Q (.ref p) (upd H p (.lst ((ks.mergeSort leS).map V.str)))) := by
  intro pins s σ H xs us Q I r q
  obtain ⟨a, kvs, ks, ex, hd, hks, h64, q⟩ := q
  subst ex
  obtain ⟨u, eu, rx⟩ := vals1 r
  subst eu
  cases rx
  obtain ⟨z, lo, vs, rel, dd⟩ := dk_rd I.hok hd
  obtain ⟨ep, hat⟩ := dd.dictAt
  have hkeys : vs.map (·.1) = ks.map Sum.inr := rel.keys.symm.trans hks
  have hl : vs.length = ks.length := by
    have e := congrArg List.length hkeys
    rw [List.length_map, List.length_map] at e
    exact e
  have h16 : vs.length ≤ sizeLine := by rw [hl]; exact h64
  refine Calls.call_function_entry PyProof.Rows.kind_sorted PyProof.Rows.plain_sorted PyProof.Rows.entry_sorted (PyProof.Rows.args_sorted1 _) ?_
  unfold Builtin.«sorted»
  refine wpAny_bind (m := checkCount "sorted" 1 1 _) (wpAny_pure ?_)
  refine wpAny_bind (PySem.W.kdu_collect (A := X.A.in1) (PySem.W.kdl_dict (knd := mixKind X.prog X.w) (kvs := vs) (ep := ep) lo) (I.ok.hd hcalm) hat h16 fun h' tk acc hk hacc => ?_)
  have hal : acc.toList.length = ks.length := by rw [Array.length_toList, hacc.1, hl]
  have hS : StrsAre acc.toList ks := strs_at hal fun j v e => by
    obtain ⟨k, x, e1, e2⟩ := hacc.2 j v (by rw [← Array.getElem?_toList]; exact e)
    have e3 : (vs.map (·.1))[j]? = some k := by rw [List.getElem?_map, e1]; all_goals rfl
    rw [hkeys, List.getElem?_map] at e3
    cases e4 : ks[j]? with
    | none => rw [e4] at e3; cases e3
    | some y =>
      rw [e4] at e3
      have e5 : Sum.inr y = k := Option.some.inj e3
      subst e5
      obtain ⟨t, ev⟩ := Value.isStrOf_shape (x := y) (v := v) e2
      exact ⟨y, t, rfl, ev⟩
  have I1 : Inv X pins σ H { s with heap := h', toks := tk } := I.kept hk
  refine wpAny_bind (wpAny_newList ?_ (by rw [hal]; exact h64))
  have hoL : (h'.push (seqObj "list" acc.toList.toArray 0)).get? h'.objs.size = some (seqObj "list" acc.toList.toArray 0) := Heap.get?_push_size _ rfl
  show wpAny _ _ _ _ _ { s with heap := h'.push (seqObj "list" acc.toList.toArray 0), toks := tk }
  have ev : EachIs (fun u x => RelV x u) acc.toList (ks.map V.str) := vals_each (vals_of_strs hS)
  have er : ∀ (g : Heap), EachIs (fun v b => ∃ as, Reads g v (dV b) as ∧ h'.objs.size ∉ as) acc.toList (ks.map V.str) := fun g => by
    have key : ∀ {us : List Value} {ys : List Str}, StrsAre us ys → EachIs (fun v b => ∃ as, Reads g v (dV b) as ∧ h'.objs.size ∉ as) us (ys.map V.str) := fun h => by
      induction h with
      | nil => exact .nil
      | cons x t _ ih => exact .cons ⟨[], .str _ _, List.not_mem_nil⟩ ih
    exact key hS
  refine wpAny_bind (wpAny_holding (list_sort_data (s := { s with heap := h'.push (seqObj "list" acc.toList.toArray 0), toks := tk }) (enc := dV) hoL ev (er _) (alike_strs ks) (sortable_strs ks) (by rw [List.length_map]; exact h64) (fun b hb => ?_) fun out ho eo => ?_))
  · obtain ⟨x, _, rfl⟩ := List.mem_map.mp hb
    have e1 : (dV (V.str x)).depth = 0 := rfl
    have e2 : X.A.in1.units = X.A.units + 1 := rfl
    omega
  rw [sort_strs] at eo
  obtain ⟨e', he'⟩ := PyProof.Rows.sortedHeap_at (vs := acc.toList) (out := out.toArray) hoL
  have hlen : ((ks.mergeSort leS).map V.str).length ≤ sizeLine := by
    rw [List.length_map, List.length_mergeSort]
    exact h64
  refine wpAny_pure ⟨_, rfl, .ref h'.objs.size, upd H h'.objs.size (.lst ((ks.mergeSort leS).map V.str)), I1.laid (t' := tk) (fun b u e => ?_) (Nat.le_refl _)
    (show ObjOk X.prog X.w _ _ _ (.lst ((ks.mergeSort leS).map V.str)) from ⟨hlen, out, e', each_vals eo, he'⟩), rfl, q _ (I1.hok.fresh (Nat.le_refl _))⟩
  have hb : b < h'.objs.size := Heap.lt_size e
  rw [PyProof.Rows.sortedHeap_old (Nat.ne_of_lt hb) (by rw [size_push']; exact Nat.lt_succ_of_lt hb)]
  exact Heap.get?_push_of_some _ e
/-- the order by length -/
def leN (x y : Str) : Bool := decide (x.length ≤ y.length)
def lV : V → PyData
  | .str x => .int (x.length : Nat)
  | _ => .none
theorem sort_lens (zs : List Str) : (zs.map V.str).mergeSort (dataLe false lV) = (zs.mergeSort leN).map V.str := by
  refine (sort_maps V.str fun a _ b _ => ?_).symm
  have := congrFun (congrFun (dataLe_int (β := Str) fun x => (x.length : Nat)) a) b
  show _ = dataLe false lV (V.str a) (V.str b)
  refine Eq.trans ?_ this.symm
  exact decide_eq_decide.mpr ⟨fun h => by omega, fun h => by omega⟩
def rSortedLen (K : PySem.W.Frag) : List V → Hp → VK → Prop := fun vs H Q => ∃ (a : Addr) (zs : List Str), vs = [V.ref a] ∧ SqL K H a (zs.map V.str) ∧ (∀ z ∈ zs, z.length ≤ sizeLine) ∧ ∀ p, H p = none → Q (.ref p) (upd H p (.lst ((zs.mergeSort leN).map V.str)))
theorem pe_sortedLen {x y : Str} {p lp kp pos : Pos} {e : Expr} {t : TA} (hu : X.A.units + 64 < cLine) (hg : Gl X x) (hm : X.mg x = none) (hv : bootBuiltins x = some (.builtin "sorted")) (hg' : Gl X y) (hm' : X.mg y = none) (hv' : bootBuiltins y = some (.builtin "len")) (ha : PA X [e] t)
    (hn : x ≠ "__name__" := by decide) (hdb : (x == ("__debug__" : Str)) = false := by decide) (hn' : y ≠ "__name__" := by decide) (hdb' : (y == ("__debug__" : Str)) = false := by decide)
    (he : backTo pos (starEach [e] X.env) = (false, eval e X.env) :: backTo pos (starEach [] X.env) := by rfl) (hpl : (backTo pos (starEach [e] X.env)).any (·.1) = false := by rfl) :
    PE X (.Call (.Name x p) [e] [⟨some "key", .Name y lp, kp⟩] pos) (fun σ H Q => t σ H fun vs H1 => rSortedLen X.K vs H1 Q) := by
  refine ⟨fun pins s σ H Q I h => ?_⟩
  refine wpAny_Call_Name_kw (ld_blt I hg hm hv ?_ hn hdb)
  refine PyProof.Rows.callWith_kw (thn (ha.run pos pins s σ H _ I h) fun us s1 ⟨vs, H1, I1, r1, q1⟩ => ?_) he hpl rfl rfl
  show wpAny _ _ (evalAll ((do let v ← eval (.Name y lp) X.env; standAt pos; pure v) :: [])) _ _ s1
  refine wpAny_evalAll_cons (wpAny_bind (ld_blt I1 hg' hm' hv' (wpAny_bind (wpAny_standAt (wpAny_pure ?_))) hn' hdb'))
  refine wpAny_evalAll_nil ?_
  obtain ⟨a, zs, rfl, hs, hz, q⟩ := q1
  obtain ⟨its, rv, hl, hsz⟩ := I1.list hs
  rw [Vals.ref1 r1]
  show wpAny _ _ (call (.builtin "sorted") [.ref a] [(Str.ofString "key", .builtin "len")]) _ _ s1
  have e := vals_each rv
  refine sorted_key_data (l := a) (vs := its) (bs := zs.map V.str) lV hl.isList e (fun d hd d' hd' => ?_) (.inr fun d hd => ?_) hsz (fun b hb => ?_) (PyProof.Rows.ksk_s1 _ _) (fun _ => PyProof.Rows.ksk_l1 _ _) (fun x => PyProof.Rows.ksk_t4 _ _) (fun v x hr hx h' tk _ => ?_) fun out c h' tk k1 k2 k3 ho eo => ?_
  · rw [List.map_map] at hd hd'
    obtain ⟨x, _, rfl⟩ := List.mem_map.mp hd
    obtain ⟨y, _, rfl⟩ := List.mem_map.mp hd'
    rfl
  · rw [List.map_map] at hd
    obtain ⟨x, _, rfl⟩ := List.mem_map.mp hd
    exact ⟨fun h => (nomatch h), fun _ h => (nomatch h)⟩
  · obtain ⟨z, _, rfl⟩ := List.mem_map.mp hb
    have e1 : (lV (V.str z)).depth = 0 := rfl
    omega
  · obtain ⟨z, hz', rfl⟩ := List.mem_map.mp hx
    obtain ⟨t', rfl⟩ := hr
    have hn := line63
    have := hz z hz'
    exact len_str (by omega) ⟨_, _, rfl, fun _ _ e => e, .int _ _⟩
  · rw [sort_lens] at eo
    have hlen : ((zs.mergeSort leN).map V.str).length ≤ sizeLine := by
      rw [List.length_map, List.length_mergeSort]
      rw [List.length_map] at hsz
      exact hsz
    exact ⟨.ref _, upd H1 (s1.heap.objs.size + 1) (.lst ((zs.mergeSort leN).map V.str)), I1.laid (t' := tk) k1 (Nat.le_succ _) ⟨hlen, out, c, each_vals eo, k3⟩, rfl, q _ (I1.hok.fresh (Nat.le_succ _))⟩
end
end CK

set_option Elab.async false
set_option linter.all false
set_option maxRecDepth 100000
set_option maxHeartbeats 4000000
/-! max of a tuple of numbers; max(list, default=number) -/
namespace CK
open PySem PySem.Spec PyProof.Rows L2 PySem.W
theorem args_max_default (a d : Value) : argsOk "max" ⟨[a], [(Str.ofString "default", d)]⟩ := by unfold argsOk; kernel_rfl
section
variable {prog : Program} {w : World} {A : Around} {R : Result → Shared → Prop} {I : Addr} {fp wr : List Addr} {n : Nat} {P : Nat → Value → Prop} {St : Nat → Heap → Prop} {d : Value}
theorem max_loopD (W : Walks prog w A.in1 I fp wr n P St) (bt : Nat → Nat → Bool) (hcmp : CmpOf prog w A.in1 .Gt P bt) (S : Addr) (hSf : S ∉ fp) :
    ∀ (k j : Nat) (s : Shared) (vb : Value) (c : Nat), n - (j + 1) = k → j + 1 ≤ n → St (j + 1) s.heap → P (argBest bt j) vb →
    s.heap.get? S = some { cls := .type "list", dict := none, data := .seq #[vb, vb] c, slots := #[] } →
    (∀ v h' tk, P (argBest bt (n - 1)) v → (∀ b o, b ∉ wr → b ≠ S → s.heap.get? b = some o → h'.get? b = some o) → R (.ok (.ret v)) { s with heap := h', toks := tk }) →
    codeAny (model prog w) A (.builtin "max.loop" ⟨[.ref I, .none, .ref S], [(Str.ofString "default", d)]⟩) R s := by
  have hSw : S ∉ wr := fun h => hSf (W.sub _ h)
  have hname : (toString "max" ++ toString ".loop" : String) = "max.loop" := by decide
  intro k
  induction k with
  | zero =>
    intro j s vb c hk hj hst hPb hS hR
    have hin : j + 1 = n := by omega
    refine codeAny_builtin PySem.F.entry_max_loop ?_
    rw [Around.under_plainId PySem.F.plain_max_loop _]
    show wpAny _ A.in1 (seqItems? (.ref S) >>= _) _ _ s
    refine wpAny_bind (wpAny_seqItems hS rfl ?_)
    show wpAny _ A.in1 (tryCatch (pyNext (.ref I)) _ >>= _) _ _ s
    refine wpAny_bind (wpAny_tryCatch (W.done s _ _ (hin ▸ hst) fun h' tk hk' => ?_))
    have hS' := hk' S _ hSw hS
    show wpAny _ A.in1 (updateSeq S (fun _ => #[]) >>= _) _ _ _
    refine wpAny_bind ?_
    refine wpAny_updateSeq hS' rfl (wpAny_bind (wpAny_letGo (wpAny_pure ?_)))
    refine hR vb _ tk (by rw [← hin]; exact hPb) fun b o hbw hbS e => (Heap.get?_update_other _ _ (Ne.symm hbS)).trans (hk' b o hbw e)
  | succ k ih =>
    intro j s vb c hk hj hst hPb hS hR
    have hlt : j + 1 < n := by omega
    refine codeAny_builtin PySem.F.entry_max_loop ?_
    rw [Around.under_plainId PySem.F.plain_max_loop _]
    show wpAny _ A.in1 (seqItems? (.ref S) >>= _) _ _ s
    refine wpAny_bind (wpAny_seqItems hS rfl ?_)
    show wpAny _ A.in1 (tryCatch (pyNext (.ref I)) _ >>= _) _ _ s
    refine wpAny_bind (wpAny_tryCatch (W.item (j + 1) s _ _ hlt hst fun v h' tk hP hst' hk' => ?_))
    have hS' := hk' S _ hSw hS
    show wpAny _ A.in1 (tryCatch (holding [v, v] (richCompare .Gt v vb >>= _)) _ >>= _) _ _ _
    refine wpAny_bind (wpAny_tryCatch (wpAny_holding (wpAny_bind (hcmp (j + 1) (argBest bt j) v vb _ _ _ hP hPb ?_))))
    refine wpAny_bind (wpAny_holding (wpAny_truthy_bool ?_))
    refine wpAny_bind (wpAny_letGo (wpAny_pure ?_))
    cases hb : bt (j + 1) (argBest bt j) with
    | true =>
      simp only [if_true]
      refine wpAny_bind ?_
      refine wpAny_updateSeq hS' rfl (wpAny_bind (wpAny_letGo ?_))
      rw [hname]
      refine wpAny_pure ⟨plainId_quiet PySem.F.plain_max_loop _, ih (j + 1) _ v _ (by omega) hlt (W.frame _ _ _ hst' fun b hbf o e => ?_) (by simp only [argBest, hb, if_true]; exact hP) (Heap.get?_update_self _ hS' rfl)
        fun v' h'' tk'' hP' hk'' => ?_⟩
      · exact (Heap.get?_update_other _ _ (fun h : S = b => hSf (by rw [h]; exact hbf))).trans e
      · exact hR v' h'' tk'' hP' fun b o hbw hbS e => hk'' b o hbw hbS ((Heap.get?_update_other _ _ (Ne.symm hbS)).trans (hk' b o hbw e))
    | false =>
      simp only [Bool.false_eq_true, if_false]
      refine wpAny_bind (wpAny_letGo ?_)
      rw [hname]
      refine wpAny_pure ⟨plainId_quiet PySem.F.plain_max_loop _, ih (j + 1) _ vb c (by omega) hlt hst' (by simp only [argBest, hb, Bool.false_eq_true, if_false]; exact hPb) hS' fun v' h'' tk'' hP' hk'' => ?_⟩
      exact hR v' h'' tk'' hP' fun b o hbw hbS e => hk'' b o hbw hbS (hk' b o hbw e)
theorem max_firstD (W : Walks prog w A.in1 I fp wr n P St) (bt : Nat → Nat → Bool) (hcmp : CmpOf prog w A.in1 .Gt P bt) (S : Addr) (hSf : S ∉ fp) {s : Shared} {c : Nat} (hst : St 0 s.heap)
    (hS : s.heap.get? S = some { cls := .type "list", dict := none, data := .seq #[] c, slots := #[] })
    (h0 : n = 0 → ∀ h' tk, (∀ b o, b ∉ wr → b ≠ S → s.heap.get? b = some o → h'.get? b = some o) → R (.ok (.ret d)) { s with heap := h', toks := tk })
    (hR : 0 < n → ∀ v h' tk, P (argBest bt (n - 1)) v → (∀ b o, b ∉ wr → b ≠ S → s.heap.get? b = some o → h'.get? b = some o) → R (.ok (.ret v)) { s with heap := h', toks := tk }) :
    codeAny (model prog w) A (.builtin "max.loop" ⟨[.ref I, .none, .ref S], [(Str.ofString "default", d)]⟩) R s := by
  have hSw : S ∉ wr := fun h => hSf (W.sub _ h)
  have hname : (toString "max" ++ toString ".loop" : String) = "max.loop" := by decide
  refine codeAny_builtin PySem.F.entry_max_loop ?_
  rw [Around.under_plainId PySem.F.plain_max_loop _]
  show wpAny _ A.in1 (seqItems? (.ref S) >>= _) _ _ s
  refine wpAny_bind (wpAny_seqItems hS rfl ?_)
  show wpAny _ A.in1 (tryCatch (pyNext (.ref I)) _ >>= _) _ _ s
  rcases Nat.eq_zero_or_pos n with hn | hn
  · refine wpAny_bind (wpAny_tryCatch (W.done s _ _ (hn ▸ hst) fun h' tk hk' => ?_))
    show wpAny _ A.in1 (rule _ >>= _) _ _ _
    refine wpAny_bind (wpAny_rule ?_)
    exact wpAny_pure (h0 hn h' tk fun b o hbw _ e => hk' b o hbw e)
  · refine wpAny_bind (wpAny_tryCatch (W.item 0 s _ _ hn hst fun v h' tk hP hst' hk' => ?_))
    have hS' := hk' S _ hSw hS
    show wpAny _ A.in1 (updateSeq S (fun _ => #[v, v]) >>= _) _ _ _
    refine wpAny_bind ?_
    refine wpAny_updateSeq hS' rfl ?_
    rw [hname]
    refine wpAny_pure ⟨plainId_quiet PySem.F.plain_max_loop _, max_loopD W bt hcmp S hSf _ 0 _ v _ rfl hn (W.frame _ _ _ hst' fun b hbf o e => ?_) hP (Heap.get?_update_self _ hS' rfl) fun v' h'' tk'' hP' hk'' => ?_⟩
    · exact (Heap.get?_update_other _ _ (fun h : S = b => hSf (by rw [h]; exact hbf))).trans e
    · exact hR hn v' h'' tk'' hP' fun b o hbw hbS e => hk'' b o hbw hbS ((Heap.get?_update_other _ _ (Ne.symm hbS)).trans (hk' b o hbw e))
end
section
variable {prog : Program} {w : World} {A : Around} {E : Value → Shared → Prop} {s : Shared}
theorem call_max_walkD {x d : Value} {Q : Value → Shared → Prop}
    (h : wpAny (model prog w) A.in1 (pyIter x) (fun it s₂ => ∃ I fp wr n P St bt, it = .ref I ∧ Walks prog w A.in1 I fp wr n P St ∧ St 0 s₂.heap ∧ (∀ b ∈ fp, b < s₂.heap.objs.size) ∧ CmpOf prog w A.in1 .Gt P bt ∧
      (n = 0 → ∀ h' tk, (∀ b o, b ∉ wr → s₂.heap.get? b = some o → h'.get? b = some o) → Q d { s₂ with heap := h', toks := tk }) ∧
      (0 < n → ∀ v h' tk, P (argBest bt (n - 1)) v → (∀ b o, b ∉ wr → s₂.heap.get? b = some o → h'.get? b = some o) → Q v { s₂ with heap := h', toks := tk })) E s) :
    wpAny (model prog w) A (call (.builtin "max") [x] [(Str.ofString "default", d)]) Q E s := by
  have hname : (toString "max" ++ toString ".loop" : String) = "max.loop" := by decide
  refine PyProof.Rows.kmk_tree PySem.F.kind_max PySem.F.plain_max PySem.F.entry_max (args_max_default _ _) ?_
  show wpAny _ A.in1 (Builtin.Builtins.bindParams "max" ["key", "default"] 0 ⟨[], [(Str.ofString "default", d)]⟩ >>= _) _ _ s
  refine wpAny_bind (wpAny_of_eq (show Builtin.Builtins.bindParams "max" ["key", "default"] 0 ⟨[], [(Str.ofString "default", d)]⟩ = pure [none, some d] from rfl) ?_)
  refine wpAny_bind (wpAny_pure ?_)
  refine wpAny_bind (wpAny_mono h (fun it s₂ h₂ => ?_) fun _ _ e => e)
  obtain ⟨I, fp, wr, n, P, St, bt, rfl, W, hst, hfp, hcmp, h0, hQ⟩ := h₂
  refine wpAny_bind (wpAny_newObj_type ?_)
  have hSf : s₂.heap.objs.size ∉ fp := fun hm => Nat.lt_irrefl _ (hfp _ hm)
  rw [hname]
  refine wpAny_pure ⟨plainId_quiet PySem.F.plain_max_loop _, max_firstD W bt hcmp s₂.heap.objs.size hSf (W.frame _ _ _ hst fun b _ o e => Heap.get?_push_of_some _ e) (Heap.get?_push_size _ rfl) (fun hn h' tk hk => ?_) fun hn v h' tk hP hk => ?_⟩
  · exact h0 hn h' tk fun b o hbw e => hk b o hbw (Nat.ne_of_lt (Heap.lt_size e)) (Heap.get?_push_of_some _ e)
  · exact hQ hn v h' tk hP fun b o hbw e => hk b o hbw (Nat.ne_of_lt (Heap.lt_size e)) (Heap.get?_push_of_some _ e)
end
/-- the greatest of numbers, 0 where there is none -/
def mx : List Nat → Nat
  | [] => 0
  | a :: l => max a (mx l)
theorem mx_le {n : Nat} : ∀ {l : List Nat}, (∀ x ∈ l, x ≤ n) → mx l ≤ n
  | [], _ => Nat.zero_le _
  | a :: l, h => by
    have := mx_le fun x hx => h x (List.mem_cons_of_mem _ hx)
    have := h a List.mem_cons_self
    rw [mx]
    omega
theorem le_mx {x : Nat} : ∀ {l : List Nat}, x ∈ l → x ≤ mx l
  | a :: l, h => by
    rw [mx]
    rcases List.mem_cons.mp h with rfl | h
    · omega
    · have := le_mx h
      omega
theorem mx_is {n : Nat} {l : List Nat} (m : n ∈ l) (h : ∀ x ∈ l, x ≤ n) : mx l = n := Nat.le_antisymm (mx_le h) (le_mx m)
theorem best_is {its : List Value} {ns : List Int} {xs : Array (Int × Tok)} {v : Value} (hn : (xs.toList.map (·.1)) = ns) (hsz : 0 < xs.size) (hv : (intItems xs)[argBest (fun i j => decide (numAt xs i > numAt xs j)) (xs.size - 1)]? = some v) : ∃ M t, v = .int M t ∧ M ∈ ns ∧ ∀ a ∈ ns, a ≤ M := by
  subst hn
  obtain ⟨t, rfl⟩ := intItems_at hv
  obtain ⟨h1, h2⟩ := argBest_gt (numAt xs) (xs.size - 1)
  refine ⟨_, t, rfl, ?_, fun a ha => ?_⟩
  · rw [numAt_eq]; exact PySem.getD_mem (by rw [List.length_map, Array.length_toList]; omega)
  · obtain ⟨j, hj, rfl⟩ := mem_getD ha
    rw [List.length_map, Array.length_toList] at hj
    rw [← numAt_eq]; exact h2 j (by omega)
theorem big_nat {M : Int} {ns : List Nat} (hm : M ∈ ns.map fun n : Nat => ((n : Nat) : Int)) (hle : ∀ a ∈ ns.map fun n : Nat => ((n : Nat) : Int), a ≤ M) : M = ((mx ns : Nat) : Int) := by
  obtain ⟨n, hn, rfl⟩ := List.mem_map.mp hm
  rw [mx_is hn fun x hx => by have := hle _ (List.mem_map.mpr ⟨x, hx, rfl⟩); omega]
section
variable {prog : Program} {w : World} {A : Around} {E : Value → Shared → Prop} {s : Shared} {l : Addr} {xs : Array (Int × Tok)}
theorem iter_tup {Q : Value → Shared → Prop} (hl : s.heap.IsTuple l (intItems xs)) (h : Q (.ref s.heap.objs.size) { s with heap := s.heap.push { cls := .type "tuple_iterator", data := .fields #[.ref l, .int 0 0] } }) : wpAny (model prog w) A (pyIter (.ref l)) Q E s := wpAny_pyIter_tuple hl h
theorem max_tupG {Q : Value → Shared → Prop} (hh : A.handled = none) (hl : s.heap.IsTuple l (intItems xs)) (hne : 0 < xs.size)
    (h : ∀ v h' tk, (intItems xs)[argBest (fun i j => decide (numAt xs i > numAt xs j)) (xs.size - 1)]? = some v → (∀ b o, s.heap.get? b = some o → h'.get? b = some o) → Q v { s with heap := h', toks := tk }) :
    wpAny (model prog w) A (call (.builtin "max") [.ref l]) Q E s := by
  have hlt : l < s.heap.objs.size := by obtain ⟨_, e, _⟩ := hl; exact Heap.lt_size e
  refine call_max_walk (wpAny_pyIter_tuple hl ?_)
  refine ⟨_, _, _, _, _, _, _, rfl, Walks.tuple (A := A.in1) hh _ l (Nat.ne_of_lt hlt) (intItems xs), ⟨⟨_, Heap.get?_push_size _ rfl, rfl, rfl⟩, hl.push _⟩, fun b hb => ?_, by simpa [intItems] using hne, CmpOf.ints_gt (numAt xs) (fun _ _ => intItems_at), fun v h' tk hP hk => ?_⟩
  · show b < (s.heap.push _).objs.size
    rw [Heap.size_push]
    rcases List.mem_cons.mp hb with rfl | hb
    · exact Nat.lt_succ_self _
    · rcases List.mem_cons.mp hb with rfl | hb
      · exact Nat.lt_succ_of_lt hlt
      · cases hb
  · refine h v h' tk (by simpa [intItems] using hP) fun b o e => ?_
    refine hk b o (fun hm => ?_) (Heap.get?_push_of_some _ e)
    have := List.mem_singleton.mp hm
    have hb := Heap.lt_size e
    rw [this] at hb
    exact absurd hb (Nat.lt_irrefl _)
theorem max_listD {d : Value} {Q : Value → Shared → Prop} (hh : A.handled = none) (hl : s.heap.IsList l (intItems xs))
    (h0 : xs.size = 0 → ∀ h' tk, (∀ b o, s.heap.get? b = some o → h'.get? b = some o) → Q d { s with heap := h', toks := tk })
    (h : 0 < xs.size → ∀ v h' tk, (intItems xs)[argBest (fun i j => decide (numAt xs i > numAt xs j)) (xs.size - 1)]? = some v → (∀ b o, s.heap.get? b = some o → h'.get? b = some o) → Q v { s with heap := h', toks := tk }) :
    wpAny (model prog w) A (call (.builtin "max") [.ref l] [(Str.ofString "default", d)]) Q E s := by
  refine call_max_walkD (iter_intList hl fun s₂ e st hfp hlI => ?_)
  subst e
  refine ⟨_, _, _, _, _, _, _, rfl, Walks.list (A := A.in1) hh _ l hlI (intItems xs), st, hfp, CmpOf.ints_gt (numAt xs) (fun _ _ => intItems_at), fun hn h' tk hk => ?_, fun hn v h' tk hP hk => ?_⟩
  · exact h0 (by simpa [intItems] using hn) h' tk (old_kept hk)
  · exact h (by simpa [intItems] using hn) v h' tk (by simpa [intItems] using hP) (old_kept hk)
end
section
variable {X : Cx}
/-- max of a tuple of numbers -/
theorem cr_maxT (hc : X.calm = true) : CallR X (.builtin "max") (fun vs H Q => ∃ (a : Addr) (ns : List Nat), vs = [V.ref a] ∧ H a = some (.tup (ns.map fun n : Nat => V.int (n : Nat))) ∧ 0 < ns.length ∧ Q (.int (mx ns : Nat)) H) := by
  intro pins s σ H vs us Q I r h
  obtain ⟨a, ns, rfl, ha, hne, q⟩ := h
  obtain ⟨its, rv, hl, _⟩ := I.tuple (.inl (.inl ha))
  rw [Vals.ref1 r]
  have e0 : (ns.map fun n : Nat => V.int (n : Nat)) = (ns.map fun n : Nat => ((n : Nat) : Int)).map V.int := by
    rw [List.map_map]
    rfl
  rw [e0] at rv
  have hi := rv.ints
  obtain ⟨xs, e⟩ := hi.allInts.items
  have hn : numsOf (intItems xs).toList = ns.map fun n : Nat => ((n : Nat) : Int) := by rw [← e]; exact hi.numsOf
  rw [nums_intItems] at hn
  have hl' : s.heap.IsTuple a (intItems xs) := by rw [← e]; exact hl
  have hz : 0 < xs.size := by
    have := congrArg List.length hn
    rw [List.length_map, List.length_map, Array.length_toList] at this
    omega
  refine max_tupG (I.ok.hd hc) hl' hz fun v h' tk hv hk => ?_
  obtain ⟨M, t, rfl, hm, hle⟩ := best_is (its := []) hn hz hv
  rw [big_nat hm hle]
  exact ⟨.int _, H, I.kept (t' := tk) hk, ⟨_, rfl⟩, q⟩
/-- max of a list of numbers -/
theorem cr_maxL (hc : X.calm = true) : CallR X (.builtin "max") (fun vs H Q => ∃ (a : Addr) (ns : List Nat), vs = [V.ref a] ∧ H a = some (.lst (ns.map fun n : Nat => V.int (n : Nat))) ∧ 0 < ns.length ∧ Q (.int (mx ns : Nat)) H) := by
  intro pins s σ H vs us Q I r h
  obtain ⟨a, ns, rfl, ha, hne, q⟩ := h
  refine cr_max hc pins s σ H _ us Q I r ⟨a, ns.map fun n : Nat => ((n : Nat) : Int), rfl, .inl (.inl (by rw [ha, List.map_map]; rfl)), by rw [List.length_map]; exact hne, fun m hm hle => ?_⟩
  rw [big_nat hm hle]
  exact q
/-- over a tuple, with the written part told apart -/
theorem pi_tupK {K : PySem.W.Frag} (hK : X.K = K) {tg l : Expr} {tl : TE} (hl : PE X l tl) : PI X tg l (iTup K tl) := by
  subst hK
  exact pi_tup hl
/-- n *= m -/
theorem ip_mul : PIp X .Mult (fun x y H Q => ∃ (k n : Nat), x = .int k ∧ y = .int n ∧ k < 2 ^ 1000 ∧ n < 2 ^ 1000 ∧ Q (.int ((k * n : Nat) : Int)) H) := by
  intro pins s σ H x y v u Q I r1 r2 h
  obtain ⟨k, n, e1, e2, h0, h1, q⟩ := h
  subst e1; subst e2
  obtain ⟨t, rfl⟩ := r1
  obtain ⟨t', rfl⟩ := r2
  rw [Int.natCast_mul] at q
  exact PyProof.Rows.imul_int ⟨.int _, H, I.tok _, ⟨_, rfl⟩, q⟩ (wide_mul (i := (k : Int)) (j := (n : Int)) (a := 1000) (b := 1000) h0 h1 (by decide) (by decide) (by decide)).ok
/-- max(list, default=number) -/
theorem pe_maxD {x : Str} {p kp pos : Pos} {e cst : Expr} {t : TA} {tc : TE} (hcalm : X.calm = true) (hg : Gl X x) (hm : X.mg x = none) (hv : bootBuiltins x = some (.builtin "max")) (ha : PA X [e] t) (hcst : PE X cst tc)
    (hn : x ≠ "__name__" := by decide) (hdb : (x == ("__debug__" : Str)) = false := by decide)
    (he : backTo pos (starEach [e] X.env) = (false, eval e X.env) :: backTo pos (starEach [] X.env) := by rfl) (hpl : (backTo pos (starEach [e] X.env)).any (·.1) = false := by rfl) :
    PE X (.Call (.Name x p) [e] [⟨some "default", cst, kp⟩] pos) (fun σ H Q => t σ H fun vs H1 => tc σ H1 fun d H2 => ∃ (a : Addr) (ns : List Nat), vs = [V.ref a] ∧ H2 a = some (.lst (ns.map fun n : Nat => V.int (n : Nat))) ∧ d = .int 0 ∧ Q (.int (mx ns : Nat)) H2) := by
  refine ⟨fun pins s σ H Q I h => ?_⟩
  refine wpAny_Call_Name_kw (ld_blt I hg hm hv ?_ hn hdb)
  refine PyProof.Rows.callWith_kw (thn (ha.run pos pins s σ H _ I h) fun us s1 ⟨vs, H1, I1, r1, q1⟩ => ?_) he hpl rfl rfl
  show wpAny _ _ (evalAll ((do let v ← eval cst X.env; standAt pos; pure v) :: [])) _ _ s1
  refine wpAny_evalAll_cons (wpAny_bind (wpAny_mono (hcst.run pins s1 σ H1 _ I1 q1) (fun dv s2 h2 => ?_) fun _ _ e => e))
  obtain ⟨d, H2, I2, rd, q2⟩ := h2
  refine wpAny_bind (wpAny_standAt (wpAny_pure ?_))
  refine wpAny_evalAll_nil ?_
  obtain ⟨a, ns, rfl, hs, rfl, q⟩ := q2
  obtain ⟨td, rfl⟩ := rd
  rw [Vals.ref1 r1]
  show wpAny _ _ (call (.builtin "max") [.ref a] [(Str.ofString "default", .int 0 td)]) _ _ s2
  obtain ⟨its, rv, hl, _⟩ := I2.list (.inl (.inl hs))
  have e0 : (ns.map fun n : Nat => V.int (n : Nat)) = (ns.map fun n : Nat => ((n : Nat) : Int)).map V.int := by
    rw [List.map_map]
    rfl
  rw [e0] at rv
  have hi := rv.ints
  obtain ⟨xs, ex⟩ := hi.allInts.items
  have hn' : numsOf (intItems xs).toList = ns.map fun n : Nat => ((n : Nat) : Int) := by rw [← ex]; exact hi.numsOf
  rw [nums_intItems] at hn'
  have hl' : s2.heap.IsList a (intItems xs) := by rw [← ex]; exact hl.isList
  refine max_listD (I2.ok.hd hcalm) hl' (fun h0 h' tk hk => ?_) fun hz v h' tk hv hk => ?_
  · have en : ns = [] := List.length_eq_zero_iff.mp (by
      have := congrArg List.length hn'
      rw [List.length_map, List.length_map, Array.length_toList] at this
      omega)
    subst en
    exact ⟨.int _, H2, I2.kept (t' := tk) hk, ⟨_, rfl⟩, q⟩
  · obtain ⟨M, t', rfl, hm', hle⟩ := best_is (its := []) hn' hz hv
    rw [big_nat hm' hle] at *
    exact ⟨.int _, H2, I2.kept (t' := tk) hk, ⟨_, rfl⟩, q⟩
end
end CK

set_option Elab.async false
set_option linter.all false
/-! `in` within a comprehension -/
namespace CK
open PySem PySem.Spec PyProof.Rows L2
section
variable {X : Cx}
theorem op_notInK {K : PySem.W.Frag} (hK : X.K = K) : OpR X (compareOp .NotIn) (rIn K true) := by
  subst hK
  exact op_notIn_seq
theorem op_inK {K : PySem.W.Frag} (hK : X.K = K) : OpR X (compareOp .In) (rIn K false) := by
  subst hK
  exact op_in_seq
end
theorem in_nats (c : Nat) : ∀ xs : List Nat, inV (.int (c : Nat)) (xs.map fun n : Nat => V.int (n : Nat)) = decide (c ∈ xs)
  | [] => rfl
  | x :: xs => by
    have ih := in_nats c xs
    rw [List.map_cons]
    by_cases e : c = x
    · subst e
      rw [decide_eq_true List.mem_cons_self]
      simp [inV, eqV]
    · have : decide (c ∈ x :: xs) = decide (c ∈ xs) := decide_eq_decide.mpr (by simp [e])
      rw [this, ← ih]
      simp [inV, eqV]
      omega
theorem flat_nats (xs : List Nat) : (xs.map fun n : Nat => V.int (n : Nat)).all flatV = true := by
  rw [List.all_map]
  exact List.all_eq_true.mpr fun _ _ => rfl
/-- sorted numbers that are sorted again -/
theorem sort_again {ns : List Int} {xs : List Nat} (p : ns.Perm (xs.map fun n : Nat => ((n : Nat) : Int))) (s : ns.Pairwise (· ≤ ·)) (h : xs.Pairwise (· < ·)) : ns = xs.map fun n : Nat => ((n : Nat) : Int) := by
  refine List.Perm.eq_of_pairwise (le := (· ≤ ·)) (fun a b _ _ h1 h2 => Int.le_antisymm h1 h2) s ?_ p
  refine List.pairwise_map.mpr (h.imp fun {a b} h => ?_)
  omega
end CK

set_option linter.all false
namespace CK
open PySem PySem.Spec PyProof.Rows L2 SX
section
variable {X : Cx}
/-- the difference of two Booleans -/
theorem op_subB : OpR X (binaryOp .Sub) (fun x y H Q => ∃ (a b : Bool), x = .bl a ∧ y = .bl b ∧ Q (.int (b2i a - b2i b)) H) := by
  intro pins s σ H x y v u Q I rx ry h
  obtain ⟨a, b, rfl, rfl, q⟩ := h
  obtain rfl : v = Value.bool a := rx
  obtain rfl : u = Value.bool b := ry
  exact sub_bool ⟨.int _, H, I.tok _, ⟨_, rfl⟩, q⟩
end
end CK

set_option linter.all false
/-! words as lists of numbers: beginnings, borders, periods, powers, roots -/
namespace WM
abbrev W := List Nat
/-! ### beginnings in common -/
def lcp : W → W → Nat
  | x :: xs, y :: ys => if x = y then lcp xs ys + 1 else 0
  | _, _ => 0
theorem lcp_le : ∀ a b : W, lcp a b ≤ a.length ∧ lcp a b ≤ b.length
  | [], b => by simp [lcp]
  | _ :: _, [] => by simp [lcp]
  | x :: xs, y :: ys => by
    have := lcp_le xs ys
    unfold lcp
    split <;> simp <;> omega
theorem lcp_take : ∀ (a b : W) (k : Nat), k ≤ lcp a b → a.take k = b.take k
  | _, _, 0, _ => by simp
  | [], b, k + 1, h => by simp [lcp] at h
  | _ :: _, [], k + 1, h => by simp [lcp] at h
  | x :: xs, y :: ys, k + 1, h => by
    unfold lcp at h
    split at h
    · rename_i e
      subst e
      rw [List.take_succ_cons, List.take_succ_cons, lcp_take xs ys k (by omega)]
    · omega
theorem le_lcp : ∀ (a b : W) (k : Nat), k ≤ a.length → k ≤ b.length → a.take k = b.take k → k ≤ lcp a b
  | _, _, 0, _, _, _ => Nat.zero_le _
  | [], b, k + 1, h, _, _ => by simp at h
  | _ :: _, [], k + 1, _, h, _ => by simp at h
  | x :: xs, y :: ys, k + 1, h1, h2, h => by
    rw [List.take_succ_cons, List.take_succ_cons] at h
    injection h with e1 e2
    subst e1
    have := le_lcp xs ys k (by simpa using h1) (by simpa using h2) e2
    unfold lcp
    rw [if_pos rfl]
    omega
theorem lcp_iff {a b : W} {k : Nat} (h1 : k ≤ a.length) (h2 : k ≤ b.length) : a.take k = b.take k ↔ k ≤ lcp a b := ⟨le_lcp a b k h1 h2, lcp_take a b k⟩

/-! ### periods and borders -/
/-- letters that stand p apart are the same -/
def Per (p : Nat) (w : W) : Prop := ∀ i, i + p < w.length → w[i]? = w[i + p]?
/-- the first b letters are the last b -/
def Bor (b : Nat) (w : W) : Prop := b ≤ w.length ∧ ∀ i, i < b → w[i]? = w[w.length - b + i]?
instance (b : Nat) (w : W) : Decidable (Bor b w) := by unfold Bor; exact inferInstance
theorem bor_per {b : Nat} {w : W} (h : Bor b w) : Per (w.length - b) w := fun i hi => by
  rw [h.2 i (by have := h.1; omega), Nat.add_comm i]
theorem per_bor {p : Nat} {w : W} (hp : p ≤ w.length) (h : Per p w) : Bor (w.length - p) w := by
  refine ⟨Nat.sub_le _ _, fun i hi => ?_⟩
  rw [h i (by omega)]
  congr 1
  omega
theorem per_zero (w : W) : Per 0 w := fun i _ => rfl
theorem per_len {p : Nat} {w : W} (h : w.length ≤ p) : Per p w := fun i hi => by omega
theorem per_take {p k : Nat} {w : W} (h : Per p w) : Per p (w.take k) := fun i hi => by
  rw [List.length_take] at hi
  rw [List.getElem?_take_of_lt (by omega), List.getElem?_take_of_lt (by omega)]
  exact h i (by omega)
theorem per_mul {p : Nat} {w : W} (h : Per p w) : ∀ (k i : Nat), i + p * k < w.length → w[i]? = w[i + p * k]?
  | 0, i, _ => by simp
  | k + 1, i, hi => by
    rw [Nat.mul_succ] at hi ⊢
    rw [per_mul h k i (by omega), h (i + p * k) (by omega)]
    congr 1
    omega
/-- Fine and Wilf's, the weak form -/
theorem per_sub {p q : Nat} {w : W} (hpq : p ≤ q) (hp : Per p w) (hq : Per q w) (hl : p + q ≤ w.length) : Per (q - p) w := fun i hi => by
  by_cases h : i + q < w.length
  · rw [hq i h]
    have := hp (i + (q - p)) (by omega)
    rw [this]
    congr 1
    omega
  · have h1 : p ≤ i := by omega
    have a := hp (i - p) (by omega)
    have b := hq (i - p) (by omega)
    rw [show i - p + p = i by omega] at a
    rw [show i - p + q = i + (q - p) by omega] at b
    rw [← a, b]
theorem fine_wilf : ∀ (n p q : Nat) (w : W), p + q ≤ n → Per p w → Per q w → p + q ≤ w.length → Per (Nat.gcd p q) w
  | 0, p, q, w, hn, hp, hq, _ => by
    have e1 : p = 0 := by omega
    have e2 : q = 0 := by omega
    subst e1 e2
    exact hp
  | n + 1, p, q, w, hn, hp, hq, hl => by
    by_cases p0 : p = 0
    · subst p0
      rw [Nat.gcd_zero_left]
      exact hq
    by_cases q0 : q = 0
    · subst q0
      rw [Nat.gcd_zero_right]
      exact hp
    by_cases h : p ≤ q
    · have := fine_wilf n p (q - p) w (by omega) hp (per_sub h hp hq hl) (by omega)
      rw [Nat.gcd_sub_self_right h] at this
      exact this
    · have := fine_wilf n (p - q) q w (by omega) (per_sub (by omega) hq hp (by omega)) hq (by omega)
      rw [Nat.gcd_sub_self_left (by omega)] at this
      exact this
theorem per_gcd {p q : Nat} {w : W} (hp : Per p w) (hq : Per q w) (hl : p + q ≤ w.length) : Per (Nat.gcd p q) w := fine_wilf _ p q w (Nat.le_refl _) hp hq hl

/-! ### the longest border -/
def lbF (w : W) : Nat → Nat
  | 0 => 0
  | b + 1 => if Bor (b + 1) w then b + 1 else lbF w b
/-- how long the longest border is, besides the word itself -/
def lb (w : W) : Nat := lbF w (w.length - 1)
theorem bor_zero (w : W) : Bor 0 w := ⟨Nat.zero_le _, fun i h => by omega⟩
theorem lbF_bor (w : W) : ∀ b, Bor (lbF w b) w ∧ lbF w b ≤ b
  | 0 => ⟨bor_zero w, Nat.le_refl _⟩
  | b + 1 => by
    unfold lbF
    split
    · rename_i h
      exact ⟨h, Nat.le_refl _⟩
    · have := lbF_bor w b
      exact ⟨this.1, by omega⟩
theorem lbF_max (w : W) : ∀ b c, c ≤ b → Bor c w → c ≤ lbF w b
  | 0, c, h, _ => by omega
  | b + 1, c, h, hc => by
    unfold lbF
    split
    · omega
    · rename_i hn
      by_cases e : c = b + 1
      · subst e
        exact absurd hc hn
      · exact lbF_max w b c (by omega) hc
theorem lb_bor (w : W) : Bor (lb w) w := (lbF_bor w _).1
theorem lb_lt {w : W} (h : w ≠ []) : lb w < w.length := by
  have := (lbF_bor w (w.length - 1)).2
  have := List.length_pos_iff.mpr h
  unfold lb
  omega
theorem lb_max {w : W} {c : Nat} (h : c < w.length) (hc : Bor c w) : c ≤ lb w := lbF_max w _ c (by omega) hc
/-- a border of a border is a border; a shorter border is one of the longer -/
theorem bor_take {w : W} {b c : Nat} (hb : Bor b w) (hc : c ≤ b) : Bor c w ↔ Bor c (w.take b) := by
  have l : (w.take b).length = b := by rw [List.length_take]; have := hb.1; omega
  constructor
  · intro h
    refine ⟨by rw [l]; exact hc, fun i hi => ?_⟩
    rw [l, List.getElem?_take_of_lt (by omega), List.getElem?_take_of_lt (by omega), h.2 i hi, hb.2 (b - c + i) (by omega)]
    congr 1
    have := hb.1
    omega
  · intro h
    refine ⟨Nat.le_trans hc hb.1, fun i hi => ?_⟩
    have := h.2 i hi
    rw [l, List.getElem?_take_of_lt (by omega), List.getElem?_take_of_lt (by omega)] at this
    rw [this, hb.2 (b - c + i) (by omega)]
    congr 1
    have := hb.1
    omega
/-- a border, one letter longer -/
theorem bor_succ {w : W} {n b : Nat} (hn : n < w.length) (hb : b < n) : Bor (b + 1) (w.take (n + 1)) ↔ Bor b (w.take n) ∧ w[b]? = w[n]? := by
  have l1 : (w.take (n + 1)).length = n + 1 := by rw [List.length_take]; omega
  have l0 : (w.take n).length = n := by rw [List.length_take]; omega
  constructor
  · intro h
    refine ⟨⟨by omega, fun i hi => ?_⟩, ?_⟩
    · have := h.2 i (by omega)
      rw [l1, List.getElem?_take_of_lt (by omega), List.getElem?_take_of_lt (by omega)] at this
      rw [l0, List.getElem?_take_of_lt (by omega), List.getElem?_take_of_lt (by omega), this]
      congr 1
      omega
    · have := h.2 b (by omega)
      rw [l1, List.getElem?_take_of_lt (by omega), List.getElem?_take_of_lt (by omega)] at this
      rw [this]
      congr 1
      omega
  · rintro ⟨h, e⟩
    refine ⟨by omega, fun i hi => ?_⟩
    rw [l1, List.getElem?_take_of_lt (by omega), List.getElem?_take_of_lt (by omega)]
    by_cases z : i < b
    · have := h.2 i z
      rw [l0, List.getElem?_take_of_lt (by omega), List.getElem?_take_of_lt (by omega)] at this
      rw [this]
      congr 1
      omega
    · have e1 : i = b := by omega
      subst e1
      rw [e]
      congr 1
      omega
/-- the walk down the borders: the state at a turn of the inner loop -/
def Cand (w : W) (n s : Nat) : Prop := s < n ∧ Bor s (w.take n) ∧ ∀ b, b < n → Bor b (w.take n) → w[b]? = w[n]? → b ≤ s
theorem cand_start {w : W} {n : Nat} (hn : n ≤ w.length) (h0 : 0 < n) : Cand w n (lb (w.take n)) := by
  have l0 : (w.take n).length = n := by rw [List.length_take]; omega
  have ne : w.take n ≠ [] := fun z => by rw [z] at l0; simp at l0; omega
  refine ⟨by have := lb_lt ne; omega, lb_bor _, fun b hb h _ => lb_max (by omega) h⟩
theorem cand_down {w : W} {n s : Nat} (hn : n ≤ w.length) (h : Cand w n s) (hs : 0 < s) (hd : w[s]? ≠ w[n]?) : Cand w n (lb (w.take s)) := by
  obtain ⟨h1, h2, h3⟩ := h
  have ls : (w.take s).length = s := by rw [List.length_take]; omega
  have ne : w.take s ≠ [] := fun z => by rw [z] at ls; simp at ls; omega
  have lt := lb_lt ne
  have tt : (w.take n).take s = w.take s := by rw [List.take_take]; congr 1; omega
  have bs : Bor (lb (w.take s)) (w.take n) := by
    rw [bor_take h2 (by omega), tt]
    exact lb_bor _
  refine ⟨by omega, bs, fun b hb hB e => ?_⟩
  have le := h3 b hb hB e
  have ne2 : b ≠ s := fun z => hd (by rw [← z]; exact e)
  have : Bor b (w.take s) := by
    rw [← tt, ← bor_take h2 (by omega)]
    exact hB
  exact lb_max (by omega) this
theorem cand_hit {w : W} {n s : Nat} (hn : n < w.length) (h : Cand w n s) (e : w[s]? = w[n]?) : lb (w.take (n + 1)) = s + 1 := by
  obtain ⟨h1, h2, h3⟩ := h
  have l1 : (w.take (n + 1)).length = n + 1 := by rw [List.length_take]; omega
  have ne : w.take (n + 1) ≠ [] := fun z => by rw [z] at l1; simp at l1
  have hB : Bor (s + 1) (w.take (n + 1)) := (bor_succ hn h1).mpr ⟨h2, e⟩
  have le := lb_max (by omega) hB
  have lt := lb_lt ne
  have lB := lb_bor (w.take (n + 1))
  generalize lb (w.take (n + 1)) = x at le lt lB ⊢
  cases x with
  | zero => omega
  | succ x =>
    obtain ⟨a, b⟩ := (bor_succ hn (by omega)).mp lB
    have := h3 x (by omega) a b
    omega
theorem cand_miss {w : W} {n : Nat} (hn : n < w.length) (h : Cand w n 0) (e : w[0]? ≠ w[n]?) : lb (w.take (n + 1)) = 0 := by
  obtain ⟨h1, h2, h3⟩ := h
  have l1 : (w.take (n + 1)).length = n + 1 := by rw [List.length_take]; omega
  have ne : w.take (n + 1) ≠ [] := fun z => by rw [z] at l1; simp at l1
  have lt := lb_lt ne
  have lB := lb_bor (w.take (n + 1))
  generalize lb (w.take (n + 1)) = x at lt lB ⊢
  cases x with
  | zero => rfl
  | succ x =>
    obtain ⟨a, b⟩ := (bor_succ hn (by omega)).mp lB
    have := h3 x (by omega) a b
    have z : x = 0 := by omega
    subst z
    exact absurd b e
theorem lb_one {w : W} : lb (w.take 1) = 0 := by
  cases w with
  | nil => simp [lb, lbF]
  | cons x r => simp [lb, lbF]

/-! ### powers and roots -/
/-- w taken k times -/
def pw (w : W) (k : Nat) : W := (List.replicate k w).flatten
theorem pw_succ (w : W) (k : Nat) : pw w (k + 1) = w ++ pw w k := by unfold pw; rw [List.replicate_succ, List.flatten_cons]
theorem pw_zero (w : W) : pw w 0 = [] := rfl
theorem pw_len (w : W) : ∀ k, (pw w k).length = w.length * k
  | 0 => by simp [pw_zero]
  | k + 1 => by rw [pw_succ, List.length_append, pw_len w k, Nat.mul_succ, Nat.add_comm]
theorem pw_add (w : W) : ∀ a b, pw w (a + b) = pw w a ++ pw w b
  | 0, b => by rw [Nat.zero_add, pw_zero, List.nil_append]
  | a + 1, b => by rw [show a + 1 + b = a + b + 1 by omega, pw_succ, pw_add w a b, pw_succ, List.append_assoc]
theorem pw_get {w : W} (h : w ≠ []) : ∀ (k i : Nat), i < w.length * k → (pw w k)[i]? = w[i % w.length]?
  | 0, i, hi => by simp at hi
  | k + 1, i, hi => by
    have n0 := List.length_pos_iff.mpr h
    rw [pw_succ]
    by_cases z : i < w.length
    · rw [List.getElem?_append_left z, Nat.mod_eq_of_lt z]
    · have hm : w.length * (k + 1) = w.length * k + w.length := Nat.mul_succ ..
      rw [List.getElem?_append_right (by omega), pw_get h k _ (by omega), Nat.mod_eq_sub_mod (show i ≥ w.length by omega)]
/-- a word with a period that divides its length is a power -/
theorem per_pw {w : W} {d : Nat} (hd : 0 < d) (hp : Per d w) (hv : d ∣ w.length) : w = pw (w.take d) (w.length / d) := by
  obtain ⟨k, hk⟩ := hv
  by_cases k0 : k = 0
  · subst k0
    rw [Nat.mul_zero] at hk
    rw [List.length_eq_zero_iff.mp hk]
    simp [pw]
  have dl : d ≤ w.length := by rw [hk]; exact Nat.le_mul_of_pos_right d (by omega)
  have lt : (w.take d).length = d := by rw [List.length_take]; omega
  have ne : w.take d ≠ [] := fun z => by rw [z] at lt; simp at lt; omega
  have ek : w.length / d = k := by rw [hk]; exact Nat.mul_div_cancel_left k hd
  rw [ek]
  refine List.ext_getElem? fun i => ?_
  by_cases hi : i < w.length
  · rw [pw_get ne k i (by rw [lt, ← hk]; exact hi), lt, List.getElem?_take_of_lt (Nat.mod_lt i hd)]
    have := per_mul hp (i / d) (i % d) (by rw [Nat.mod_add_div]; exact hi)
    rw [this, Nat.mod_add_div]
  · rw [List.getElem?_eq_none (by omega), List.getElem?_eq_none (by rw [pw_len, lt, ← hk]; omega)]
theorem pw_per {u : W} (h : u ≠ []) (k : Nat) : Per u.length (pw u k) := fun i hi => by
  rw [pw_len] at hi
  rw [pw_get h k i (by omega), pw_get h k _ hi, Nat.add_mod_right]
/-- not empty, and no shorter word taken several times -/
def Prim (w : W) : Prop := w ≠ [] ∧ ∀ d, 0 < d → d ∣ w.length → Per d w → d = w.length
theorem prim_pw {w u : W} {k : Nat} (h : Prim w) (e : w = pw u k) : k = 1 ∧ u = w := by
  have une : u ≠ [] := fun z => by
    subst z
    apply h.1
    rw [e]
    simp [pw]
  have l : w.length = u.length * k := by rw [e, pw_len]
  have := h.2 u.length (List.length_pos_iff.mpr une) ⟨k, l⟩ (by rw [e]; exact pw_per une k)
  have n0 := List.length_pos_iff.mpr une
  have k1 : k = 1 := by
    rw [this] at l
    have : w.length * 1 = w.length * k := by omega
    exact (Nat.eq_of_mul_eq_mul_left (by omega) this).symm
  subst k1
  exact ⟨rfl, by rw [e, pw_succ, pw_zero, List.append_nil]⟩
/-- the root's length, as the program finds it -/
def rootN (w : W) : Nat := if w.length % (w.length - lb w) = 0 then w.length - lb w else w.length
theorem rootN_dvd (w : W) : rootN w ∣ w.length := by
  unfold rootN
  split
  · rename_i h
    exact Nat.dvd_of_mod_eq_zero h
  · exact Nat.dvd_refl _
theorem rootN_pos {w : W} (h : w ≠ []) : 0 < rootN w := by
  have := lb_lt h
  have := List.length_pos_iff.mpr h
  unfold rootN
  split <;> omega
theorem rootN_le {w : W} (h : w ≠ []) : rootN w ≤ w.length := Nat.le_of_dvd (List.length_pos_iff.mpr h) (rootN_dvd w)
theorem rootN_per (w : W) : Per (rootN w) w := by
  unfold rootN
  split
  · exact bor_per (lb_bor w)
  · exact per_len (Nat.le_refl _)
/-- no period is less than the program's step -/
theorem step_least {w : W} {p : Nat} (hp : 0 < p) (hl : p ≤ w.length) (h : Per p w) : w.length - lb w ≤ p := by
  have := lb_max (c := w.length - p) (by omega) (per_bor hl h)
  omega
/-- a period of the word that divides its length is a multiple of the root's -/
theorem root_div {w : W} (hw : w ≠ []) {d : Nat} (hd : 0 < d) (hv : d ∣ w.length) (h : Per d w) : rootN w ∣ d := by
  have n0 := List.length_pos_iff.mpr hw
  have dl := Nat.le_of_dvd n0 hv
  have lt := lb_lt hw
  have s := step_least hd dl h
  by_cases e : d = w.length
  · rw [e]
    exact rootN_dvd w
  · have two : d + d ≤ w.length := by
      obtain ⟨k, hk⟩ := hv
      have : k ≠ 0 := fun z => by subst z; omega
      have : k ≠ 1 := fun z => by subst z; omega
      have : d * 2 ≤ d * k := Nat.mul_le_mul_left d (by omega)
      omega
    have g := per_gcd (bor_per (lb_bor w)) h (by omega)
    have gp : 0 < Nat.gcd (w.length - lb w) d := Nat.gcd_pos_of_pos_right _ hd
    have g1 := step_least gp (Nat.le_trans (Nat.gcd_le_right _ hd) dl) g
    have g2 : Nat.gcd (w.length - lb w) d ∣ w.length - lb w := Nat.gcd_dvd_left _ _
    have g3 : Nat.gcd (w.length - lb w) d = w.length - lb w := Nat.le_antisymm (Nat.le_of_dvd (by omega) g2) g1
    have g4 : w.length - lb w ∣ d := by rw [← g3]; exact Nat.gcd_dvd_right _ _
    have : w.length % (w.length - lb w) = 0 := Nat.mod_eq_zero_of_dvd (Nat.dvd_trans g4 hv)
    unfold rootN
    rw [if_pos this]
    exact g4
theorem root_prim {w : W} (hw : w ≠ []) : Prim (w.take (rootN w)) := by
  have r0 := rootN_pos hw
  have rl := rootN_le hw
  have l : (w.take (rootN w)).length = rootN w := by rw [List.length_take]; omega
  refine ⟨fun z => by rw [z] at l; simp at l; omega, fun d hd hv h => ?_⟩
  rw [l] at hv ⊢
  -- a period of the root that divides it is one of the word
  have hw' : Per d w := fun i hi => by
    have mul : ∀ j, j < w.length → w[j]? = w[j % rootN w]? := fun j hj => by
      have := per_mul (rootN_per w) (j / rootN w) (j % rootN w) (by rw [Nat.mod_add_div]; exact hj)
      rw [Nat.mod_add_div] at this
      exact this.symm
    have inner : ∀ j, j < rootN w → w[j]? = w[j % d]? := fun j hj => by
      have := per_mul h (j / d) (j % d) (by rw [Nat.mod_add_div, l]; exact hj)
      rw [Nat.mod_add_div, List.getElem?_take_of_lt hj, List.getElem?_take_of_lt (by have := Nat.mod_le j d; omega)] at this
      exact this.symm
    rw [mul i (by omega), mul (i + d) hi, inner _ (Nat.mod_lt _ r0), inner ((i + d) % rootN w) (Nat.mod_lt _ r0)]
    congr 1
    rw [Nat.mod_mod_of_dvd _ hv, Nat.mod_mod_of_dvd _ hv, Nat.add_mod_right]
  exact Nat.dvd_antisymm hv (root_div hw hd (Nat.dvd_trans hv (rootN_dvd w)) hw')
theorem root_pw {w : W} (hw : w ≠ []) : w = pw (w.take (rootN w)) (w.length / rootN w) := per_pw (rootN_pos hw) (rootN_per w) (rootN_dvd w)
end WM

set_option linter.all false
set_option maxRecDepth 100000
namespace NM
open WM
/-! ### the last letters of a word taken without end; rotations -/
theorem mod_of {a b L x y : Nat} (h : a + L * x = b + L * y) : a % L = b % L := by
  rw [← Nat.add_mul_mod_self_left a L x, h, Nat.add_mul_mod_self_left]
def rotR (u : W) (k : Nat) : W := u.drop (u.length - k % u.length) ++ u.take (u.length - k % u.length)
def tailE (u : W) (k : Nat) : W := u.drop (u.length - k % u.length) ++ pw u (k / u.length)
theorem tailE_len {u : W} (h : u ≠ []) (k : Nat) : (tailE u k).length = k := by
  have n0 := List.length_pos_iff.mpr h
  have := Nat.mod_lt k n0
  have := Nat.mod_add_div k u.length
  unfold tailE
  rw [List.length_append, List.length_drop, pw_len]
  omega
theorem tailE_get {u : W} (h : u ≠ []) {k i : Nat} (hi : i < k) : (tailE u k)[i]? = u[(i + (u.length - k % u.length)) % u.length]? := by
  have n0 := List.length_pos_iff.mpr h
  have hm := Nat.mod_lt k n0
  have hd := Nat.mod_add_div k u.length
  unfold tailE
  by_cases z : i < k % u.length
  · rw [List.getElem?_append_left (by rw [List.length_drop]; omega), List.getElem?_drop, Nat.mod_eq_of_lt (show i + (u.length - k % u.length) < u.length by omega), Nat.add_comm]
  · rw [List.getElem?_append_right (by rw [List.length_drop]; omega), List.length_drop, pw_get h _ _ (by omega)]
    congr 1
    exact mod_of (x := 1) (y := 0) (by omega)
theorem tailE_drop {u : W} (h : u ≠ []) {n k : Nat} (hk : k ≤ n) : (tailE u n).drop (n - k) = tailE u k := by
  have n0 := List.length_pos_iff.mpr h
  refine List.ext_getElem? fun i => ?_
  by_cases hi : i < k
  · rw [List.getElem?_drop, tailE_get h (by omega), tailE_get h hi]
    congr 1
    have h1 := Nat.mod_add_div n u.length
    have h2 := Nat.mod_add_div k u.length
    have h3 := Nat.mod_lt n n0
    have h4 := Nat.mod_lt k n0
    exact mod_of (x := k / u.length) (y := n / u.length) (by omega)
  · rw [List.getElem?_eq_none (by rw [List.length_drop, tailE_len h]; omega), List.getElem?_eq_none (by rw [tailE_len h]; omega)]
theorem pw_comm (p s : W) : ∀ j, pw (s ++ p) j ++ s = s ++ pw (p ++ s) j
  | 0 => by simp [pw]
  | j + 1 => by
    rw [pw_succ, pw_succ, List.append_assoc, pw_comm p s j]
    simp [List.append_assoc]
theorem rotR_split (u : W) (k : Nat) : rotR u k = u.drop (u.length - k % u.length) ++ u.take (u.length - k % u.length) := rfl
theorem rotR_len (u : W) (k : Nat) : (rotR u k).length = u.length := by
  unfold rotR
  rw [List.length_append, List.length_drop, List.length_take]
  omega
/-- what is moved behind a power, and the power turned -/
theorem move_pw (u : W) (k j : Nat) : pw (rotR u k) j ++ tailE u k = tailE u k ++ pw u j := by
  have e : u.take (u.length - k % u.length) ++ u.drop (u.length - k % u.length) = u := List.take_append_drop _ _
  unfold tailE rotR
  rw [← List.append_assoc, pw_comm, e, List.append_assoc, ← pw_add, List.append_assoc, ← pw_add, Nat.add_comm]
theorem rotR_get {u : W} (h : u ≠ []) (k : Nat) {i : Nat} (hi : i < u.length) : (rotR u k)[i]? = u[(i + (u.length - k % u.length)) % u.length]? := by
  have n0 := List.length_pos_iff.mpr h
  have hm := Nat.mod_lt k n0
  unfold rotR
  by_cases z : i < k % u.length
  · rw [List.getElem?_append_left (by rw [List.length_drop]; omega), List.getElem?_drop, Nat.mod_eq_of_lt (show i + (u.length - k % u.length) < u.length by omega), Nat.add_comm]
  · rw [List.getElem?_append_right (by rw [List.length_drop]; omega), List.length_drop, List.getElem?_take_of_lt (by omega)]
    congr 1
    rw [show i - (u.length - (u.length - k % u.length)) = i - k % u.length by omega]
    have := mod_of (a := i + (u.length - k % u.length)) (b := i - k % u.length) (L := u.length) (x := 0) (y := 1) (by omega)
    rw [this, Nat.mod_eq_of_lt (show i - k % u.length < u.length by omega)]
theorem rotR_ne {u : W} (h : u ≠ []) (k : Nat) : rotR u k ≠ [] := fun z => by
  have := rotR_len u k
  rw [z] at this
  exact h (List.length_eq_zero_iff.mp this.symm)
theorem rotR_zero (u : W) : rotR u 0 = u := by
  unfold rotR
  simp
theorem last_get {w : W} (h : w ≠ []) : w.getLast? = w[w.length - 1]? := List.getLast?_eq_getElem? ..
/-- the last letter of the turned word is the letter ahead of what was moved -/
theorem rotR_last {u : W} (h : u ≠ []) {n k : Nat} (hk : k < n) : (rotR u k).getLast? = (tailE u n)[n - k - 1]? := by
  have n0 := List.length_pos_iff.mpr h
  rw [last_get (rotR_ne h k), rotR_len, rotR_get h k (by omega), tailE_get h (by omega)]
  congr 1
  have h1 := Nat.mod_add_div n u.length
  have h2 := Nat.mod_add_div k u.length
  have h3 := Nat.mod_lt n n0
  have h4 := Nat.mod_lt k n0
  exact mod_of (x := n / u.length) (y := k / u.length + 1) (by rw [Nat.mul_add]; omega)
theorem per_at {d : Nat} {w : W} (hd : 0 < d) (h : Per d w) {i : Nat} (hi : i < w.length) : w[i]? = w[i % d]? := by
  have := per_mul h (i / d) (i % d) (by rw [Nat.mod_add_div]; exact hi)
  rw [Nat.mod_add_div] at this
  exact this.symm
theorem prim_rotR {u : W} (h : Prim u) (k : Nat) : Prim (rotR u k) := by
  have ne := h.1
  have n0 := List.length_pos_iff.mpr ne
  refine ⟨rotR_ne ne k, fun d hd hv hp => ?_⟩
  rw [rotR_len] at hv ⊢
  refine h.2 d hd hv fun i hi => ?_
  -- letter i of u stands in the turned word at the place i + k
  have at_ : ∀ j, j < u.length → u[j]? = (rotR u k)[(j + k) % u.length]? := fun j hj => by
    rw [rotR_get ne k (Nat.mod_lt _ n0)]
    congr 1
    have h1 := Nat.mod_add_div (j + k) u.length
    have h2 := Nat.mod_add_div k u.length
    have h4 := Nat.mod_lt k n0
    have := mod_of (a := (j + k) % u.length + (u.length - k % u.length)) (b := j) (L := u.length) (x := (j + k) / u.length) (y := k / u.length + 1) (by rw [Nat.mul_add]; omega)
    rw [this, Nat.mod_eq_of_lt hj]
  have l := rotR_len u k
  rw [at_ i (by omega), at_ (i + d) hi, per_at hd hp (by rw [l]; exact Nat.mod_lt _ n0), per_at hd hp (i := (i + d + k) % u.length) (by rw [l]; exact Nat.mod_lt _ n0)]
  congr 1
  rw [Nat.mod_mod_of_dvd _ hv, Nat.mod_mod_of_dvd _ hv, show i + d + k = i + k + d by omega, Nat.add_mod_right]
/-! ### how many letters are moved -/
def movedE (ahead u : W) : Nat := lcp ahead.reverse (tailE u ahead.length).reverse
theorem movedE_le (ahead u : W) : movedE ahead u ≤ ahead.length := by
  have := (lcp_le ahead.reverse (tailE u ahead.length).reverse).1
  rw [List.length_reverse] at this
  exact this
theorem moved_drop {ahead u : W} (h : u ≠ []) : ahead.drop (ahead.length - movedE ahead u) = tailE u (movedE ahead u) := by
  have hle := movedE_le ahead u
  have e := lcp_take ahead.reverse (tailE u ahead.length).reverse _ (Nat.le_refl _)
  rw [List.take_reverse, List.take_reverse] at e
  have e2 := List.reverse_inj.mp e
  rw [tailE_len h] at e2
  rw [← tailE_drop h hle]
  exact e2
theorem lcp_next : ∀ (a b : W), lcp a b < a.length → lcp a b < b.length → a[lcp a b]? ≠ b[lcp a b]?
  | [], b, h, _ => by simp at h
  | _ :: _, [], _, h => by simp at h
  | x :: xs, y :: ys, h1, h2 => by
    unfold lcp at h1 h2 ⊢
    by_cases e : x = y
    · rw [if_pos e] at h1 h2 ⊢
      rw [List.getElem?_cons_succ, List.getElem?_cons_succ]
      exact lcp_next xs ys (by simpa using h1) (by simpa using h2)
    · rw [if_neg e]
      simp [e]
theorem moved_next {ahead u : W} (h : u ≠ []) (hk : movedE ahead u < ahead.length) : (ahead.take (ahead.length - movedE ahead u)).getLast? ≠ (rotR u (movedE ahead u)).getLast? := by
  rw [rotR_last h hk, List.getLast?_eq_getElem?, List.length_take, Nat.min_eq_left (by omega), List.getElem?_take_of_lt (by omega)]
  have := lcp_next ahead.reverse (tailE u ahead.length).reverse (by rw [List.length_reverse]; exact hk) (by rw [List.length_reverse, tailE_len h]; exact hk)
  rw [List.getElem?_reverse (by exact hk), List.getElem?_reverse (by rw [tailE_len h]; exact hk), tailE_len h] at this
  have e : ahead.length - movedE ahead u - 1 = ahead.length - 1 - movedE ahead u := by omega
  rw [e]
  exact this
theorem moved_zero {ahead u : W} (h : u ≠ []) (ha : ahead ≠ []) (hl : ahead.getLast? ≠ u.getLast?) : movedE ahead u = 0 := by
  have n0 := List.length_pos_iff.mpr ha
  have u0 := List.length_pos_iff.mpr h
  by_cases z : movedE ahead u = 0
  · exact z
  exfalso
  apply hl
  have e := moved_drop (ahead := ahead) h
  have hle := movedE_le ahead u
  rw [List.getLast?_eq_getElem?, List.getLast?_eq_getElem?]
  have h1 : (ahead.drop (ahead.length - movedE ahead u))[movedE ahead u - 1]? = (tailE u (movedE ahead u))[movedE ahead u - 1]? := by rw [e]
  rw [List.getElem?_drop, tailE_get h (by omega)] at h1
  rw [show ahead.length - 1 = ahead.length - movedE ahead u + (movedE ahead u - 1) by omega, h1]
  congr 1
  have h2 := Nat.mod_add_div (movedE ahead u) u.length
  have h4 := Nat.mod_lt (movedE ahead u) u0
  have := mod_of (a := movedE ahead u - 1 + (u.length - movedE ahead u % u.length)) (b := u.length - 1) (L := u.length) (x := 0) (y := movedE ahead u / u.length) (by omega)
  rw [this, Nat.mod_eq_of_lt (show u.length - 1 < u.length by omega)]
end NM

set_option linter.all false
/-! how far two words written by powers go together: the first letters of two powers decide (no Python here) -/
namespace WM
open NM
theorem lcp_eq_of {a b : W} {k : Nat} (h1 : k ≤ a.length) (h2 : k ≤ b.length) (e : a.take k = b.take k) (ne : k = a.length ∨ k = b.length ∨ a[k]? ≠ b[k]?) : lcp a b = k := by
  have ge := le_lcp a b k h1 h2 e
  have le := lcp_le a b
  by_cases z : lcp a b = k
  · exact z
  · have lt : k < lcp a b := by omega
    have t := lcp_take a b (k + 1) lt
    rcases ne with ne | ne | ne
    · omega
    · omega
    · exact absurd (by
        have := congrArg (fun l => l[k]?) t
        simp only [List.getElem?_take] at this
        rwa [if_pos (Nat.lt_succ_self k), if_pos (Nat.lt_succ_self k)] at this) ne
theorem lcp_short {a b : W} {k : Nat} (h1 : k ≤ a.length) (h2 : k ≤ b.length) (lt : lcp (a.take k) (b.take k) < k) : lcp a b = lcp (a.take k) (b.take k) := by
  have ta := lcp_take (a.take k) (b.take k) _ (Nat.le_refl _)
  have l1 : (a.take k).length = k := by rw [List.length_take]; omega
  have l2 : (b.take k).length = k := by rw [List.length_take]; omega
  have nx := lcp_next (a.take k) (b.take k) (by omega) (by omega)
  refine lcp_eq_of (by omega) (by omega) ?_ (.inr (.inr ?_))
  · rw [List.take_take, List.take_take, Nat.min_eq_left (Nat.le_of_lt lt)] at ta
    exact ta
  · rw [List.getElem?_take_of_lt lt, List.getElem?_take_of_lt lt] at nx
    exact nx
theorem lcp_go {a b : W} {k : Nat} (h1 : k ≤ a.length) (h2 : k ≤ b.length) (e : a.take k = b.take k) : lcp a b = k + lcp (a.drop k) (b.drop k) := by
  have l1 := lcp_le (a.drop k) (b.drop k)
  rw [List.length_drop, List.length_drop] at l1
  have t := lcp_take (a.drop k) (b.drop k) _ (Nat.le_refl _)
  refine lcp_eq_of (by omega) (by omega) ?_ ?_
  · have ea : a.take (k + lcp (a.drop k) (b.drop k)) = a.take k ++ (a.drop k).take (lcp (a.drop k) (b.drop k)) := List.take_add
    have eb : b.take (k + lcp (a.drop k) (b.drop k)) = b.take k ++ (b.drop k).take (lcp (a.drop k) (b.drop k)) := List.take_add
    rw [ea, eb, e, t]
  · by_cases z1 : lcp (a.drop k) (b.drop k) = (a.drop k).length
    · rw [List.length_drop] at z1
      exact .inl (by omega)
    · by_cases z2 : lcp (a.drop k) (b.drop k) = (b.drop k).length
      · rw [List.length_drop] at z2
        exact .inr (.inl (by omega))
      · have nx := lcp_next (a.drop k) (b.drop k) (by rw [List.length_drop] at z1 ⊢; omega) (by rw [List.length_drop] at z2 ⊢; omega)
        rw [List.getElem?_drop, List.getElem?_drop] at nx
        exact .inr (.inr nx)
/-- two words with periods that are alike over both periods together are one -/
theorem per_two {x y : W} {p q : Nat} (hp : 1 ≤ p) (hq : 1 ≤ q) (l : x.length = y.length) (hx : ∀ i, i + p < x.length → x[i]? = x[i + p]?) (hy : ∀ i, i + q < y.length → y[i]? = y[i + q]?) (h : x.take (p + q) = y.take (p + q)) : x = y := by
  have key : ∀ (n i : Nat), i < n → x[i]? = y[i]? := fun n => by
    induction n with
    | zero => intro i h; omega
    | succ n ih =>
      intro i hi
      by_cases hn : i < n
      · exact ih i hn
      · by_cases hl : i < x.length
        · by_cases hs : i < p + q
          · have := congrArg (fun l => l[i]?) h
            simp only [List.getElem?_take] at this
            rwa [if_pos hs, if_pos hs] at this
          · have a1 := hx (i - p) (by omega)
            rw [show i - p + p = i by omega] at a1
            have a2 := hy (i - p - q) (by omega)
            rw [show i - p - q + q = i - p by omega] at a2
            have a3 := hx (i - p - q) (by omega)
            rw [show i - p - q + p = i - q by omega] at a3
            have a4 := hy (i - q) (by omega)
            rw [show i - q + q = i by omega] at a4
            have b1 := ih (i - p) (by omega)
            have b2 := ih (i - p - q) (by omega)
            have b3 := ih (i - q) (by omega)
            rw [← a1, b1, ← a2, ← b2, a3, b3, a4]
        · rw [List.getElem?_eq_none (by omega), List.getElem?_eq_none (by omega)]
  exact List.ext_getElem? fun i => key (i + 1) i (Nat.lt_succ_self i)
theorem tail_full {u : W} (h : u ≠ []) (t : Nat) : tailE u (u.length * t) = pw u t := by
  have n0 := List.length_pos_iff.mpr h
  unfold tailE
  rw [Nat.mul_mod_right, Nat.sub_zero, List.drop_length, List.nil_append, Nat.mul_div_cancel_left _ n0]
theorem tail_per {u : W} (h : u ≠ []) {r n : Nat} (hn : n ≤ r) : ∀ i, i + u.length < ((tailE u r).take n).length → ((tailE u r).take n)[i]? = ((tailE u r).take n)[i + u.length]? := fun i hi => by
  rw [List.length_take, tailE_len h] at hi
  rw [List.getElem?_take_of_lt (by omega), List.getElem?_take_of_lt (by omega), tailE_get h (by omega), tailE_get h (by omega)]
  congr 1
  rw [show i + u.length + (u.length - r % u.length) = i + (u.length - r % u.length) + u.length by omega, Nat.add_mod_right]
/-- one turn of the comparison -/
theorem turn {u v A B : W} {r1 r2 size look : Nat} (hu : u ≠ []) (hv : v ≠ []) (hs : size = min r1 r2) (hl : look = min size (u.length + v.length)) :
    (lcp ((tailE u r1).take look) ((tailE v r2).take look) < look → lcp (tailE u r1 ++ A) (tailE v r2 ++ B) = lcp ((tailE u r1).take look) ((tailE v r2).take look)) ∧
    (¬ lcp ((tailE u r1).take look) ((tailE v r2).take look) < look → lcp (tailE u r1 ++ A) (tailE v r2 ++ B) = size + lcp (tailE u (r1 - size) ++ A) (tailE v (r2 - size) ++ B)) := by
  have l1 := tailE_len hu r1
  have l2 := tailE_len hv r2
  have n1 := List.length_pos_iff.mpr hu
  have n2 := List.length_pos_iff.mpr hv
  have ta : ∀ k, k ≤ r1 → (tailE u r1 ++ A).take k = (tailE u r1).take k := fun k hk => List.take_append_of_le_length (by omega)
  have tb : ∀ k, k ≤ r2 → (tailE v r2 ++ B).take k = (tailE v r2).take k := fun k hk => List.take_append_of_le_length (by omega)
  constructor
  · intro lt
    have e1 := ta look (by omega)
    have e2 := tb look (by omega)
    have := lcp_short (a := tailE u r1 ++ A) (b := tailE v r2 ++ B) (k := look) (by rw [List.length_append]; omega) (by rw [List.length_append]; omega) (by rw [e1, e2]; exact lt)
    rw [this, e1, e2]
  · intro ge
    have le := lcp_le ((tailE u r1).take look) ((tailE v r2).take look)
    rw [List.length_take, List.length_take] at le
    have eq : (tailE u r1).take look = (tailE v r2).take look := by
      have := lcp_take ((tailE u r1).take look) ((tailE v r2).take look) look (by omega)
      rwa [List.take_take, List.take_take, Nat.min_self] at this
    have all : (tailE u r1).take size = (tailE v r2).take size := by
      by_cases z : size ≤ u.length + v.length
      · rw [show look = size by omega] at eq
        exact eq
      · have el : look = u.length + v.length := by omega
        refine per_two (p := u.length) (q := v.length) n1 n2 (by rw [List.length_take, List.length_take]; omega) (tail_per hu (by omega)) (tail_per hv (by omega)) ?_
        rw [List.take_take, List.take_take, Nat.min_eq_left (by omega), ← el]
        exact eq
    have := lcp_go (a := tailE u r1 ++ A) (b := tailE v r2 ++ B) (k := size) (by rw [List.length_append]; omega) (by rw [List.length_append]; omega) (by rw [ta size (by omega), tb size (by omega)]; exact all)
    rw [this, List.drop_append_of_le_length (by omega), List.drop_append_of_le_length (by omega)]
    have d1 := tailE_drop hu (n := r1) (k := r1 - size) (by omega)
    have d2 := tailE_drop hv (n := r2) (k := r2 - size) (by omega)
    rw [show r1 - (r1 - size) = size by omega] at d1
    rw [show r2 - (r2 - size) = size by omega] at d2
    rw [d1, d2]
end WM

set_option Elab.async false
set_option linter.all false
set_option maxRecDepth 100000
set_option maxHeartbeats 4000000
namespace K04
open PySem PySem.Spec PyProof.Rows L2 CK
def topS (i : Nat) : Stmt := PySem.Challenge.pw_countscribe_k04_whole_one_text_in_many_s.main.body.getD i (.Pass ⟨0, 0, 0, 0⟩)
theorem sc_wall : FnScope ["k"] ["k"] (C8.fnScope (topS 0)) := C8.fnScope_by (by decide +kernel)
theorem sc_is_whole : FnScope ["value"] ["value"] (C8.fnScope (topS 9)) := C8.fnScope_by (by decide +kernel)
theorem sc_is_count : FnScope ["value"] ["value"] (C8.fnScope (topS 10)) := C8.fnScope_by (by decide +kernel)
theorem sc_is_within : FnScope ["value", "low", "high"] ["value", "low", "high"] (C8.fnScope (topS 11)) := C8.fnScope_by (by decide +kernel)
theorem sc_is_lettered : FnScope ["value", "most"] ["value", "most"] (C8.fnScope (topS 12)) := C8.fnScope_by (by decide +kernel)
theorem sc_need_within : FnScope ["value", "low", "high"] ["value", "low", "high"] (C8.fnScope (topS 13)) := C8.fnScope_by (by decide +kernel)
theorem sc_turned_word : FnScope ["word", "by", "at"] ["word", "by"] (C8.fnScope (topS 15)) := C8.fnScope_by (by decide +kernel)
theorem sc_stretch : FnScope ["word", "start", "size", "at"] ["word", "start", "size"] (C8.fnScope (topS 16)) := C8.fnScope_by (by decide +kernel)
theorem sc_alike_ahead : FnScope ["one", "other", "low", "high", "middle"] ["one", "other"] (C8.fnScope (topS 17)) := C8.fnScope_by (by decide +kernel)
theorem sc_is_kept_piece : FnScope ["value"] ["value"] (C8.fnScope (topS 22)) := C8.fnScope_by (by decide +kernel)
theorem sc_need_kept_pieces : FnScope ["value", "item", "many", "word", "_"] ["value"] (C8.fnScope (topS 23)) := C8.fnScope_by (by decide +kernel)
theorem sc_put_together : FnScope ["pieces", "ready", "word", "times"] ["pieces"] (C8.fnScope (topS 24)) := C8.fnScope_by (by decide +kernel)
theorem sc_ends_of : FnScope ["pieces", "ends", "total", "word", "times"] ["pieces"] (C8.fnScope (topS 25)) := C8.fnScope_by (by decide +kernel)
theorem sc_stretch_pieces : FnScope ["word", "low", "high", "front"] ["word", "low", "high"] (C8.fnScope (topS 26)) := C8.fnScope_by (by decide +kernel)
theorem sc_KeptWord___init__ : FnScope ["self", "pieces"] ["self", "pieces"] (C8.fnScope (inClass (topS 27) 0)) := C8.fnScope_by (by decide +kernel)
theorem sc_KeptWord_pieces : FnScope ["self"] ["self"] (C8.fnScope (inClass (topS 27) 1)) := C8.fnScope_by (by decide +kernel)
theorem sc_KeptWord_length : FnScope ["self"] ["self"] (C8.fnScope (inClass (topS 27) 2)) := C8.fnScope_by (by decide +kernel)
theorem sc_KeptWord_letter : FnScope ["self", "at", "index", "word", "times"] ["self", "at"] (C8.fnScope (inClass (topS 27) 3)) := C8.fnScope_by (by decide +kernel)
theorem sc_KeptWord_part : FnScope ["self", "low", "high"] ["self", "low", "high"] (C8.fnScope (inClass (topS 27) 4)) := C8.fnScope_by (by decide +kernel)
theorem sc_KeptWord_plain : FnScope ["self"] ["self"] (C8.fnScope (inClass (topS 27) 5)) := C8.fnScope_by (by decide +kernel)
theorem sc_piece_index : FnScope ["ends", "at", "low", "high", "middle"] ["ends", "at"] (C8.fnScope (topS 28)) := C8.fnScope_by (by decide +kernel)
theorem sc_stretch_of : FnScope ["pieces", "ends", "low", "high", "found", "word", "times", "end", "start"] ["pieces", "ends", "low", "high"] (C8.fnScope (topS 29)) := C8.fnScope_by (by decide +kernel)
theorem sc_kept_of : FnScope ["pieces", "made"] ["pieces"] (C8.fnScope (topS 30)) := C8.fnScope_by (by decide +kernel)
theorem sc_need_kept : FnScope ["value"] ["value"] (C8.fnScope (topS 31)) := C8.fnScope_by (by decide +kernel)
theorem sc_sizes_of : FnScope ["pieces", "word", "times"] ["pieces"] (C8.fnScope (topS 33)) := C8.fnScope_by (by decide +kernel)
theorem sc_place_within : FnScope ["sizes", "at", "index", "size"] ["sizes", "at"] (C8.fnScope (topS 34)) := C8.fnScope_by (by decide +kernel)
theorem sc_alike_from : FnScope ["one", "one_at", "other", "other_at", "one_sizes", "other_sizes", "left", "one_rest", "right", "other_rest", "total", "size", "look", "same"] ["one", "one_at", "other", "other_at"] (C8.fnScope (topS 35)) := C8.fnScope_by (by decide +kernel)
theorem sc_agree : FnScope ["one", "other"] ["one", "other"] (C8.fnScope (topS 37)) := C8.fnScope_by (by decide +kernel)
theorem sc_compare : FnScope ["one", "other", "same"] ["one", "other"] (C8.fnScope (topS 38)) := C8.fnScope_by (by decide +kernel)
theorem sc_same_kept : FnScope ["one", "other"] ["one", "other"] (C8.fnScope (topS 39)) := C8.fnScope_by (by decide +kernel)
theorem sc_law_cell : FnScope ["_law_script", "_law_index"] ["_law_script", "_law_index"] (C8.fnScope (topS 41)) := C8.fnScope_by (by decide +kernel)
theorem sc_law_hash : FnScope ["_law_seed", "_law_index", "_law_mixed"] ["_law_seed", "_law_index"] (C8.fnScope (topS 42)) := C8.fnScope_by (by decide +kernel)
theorem sc_law_generator : FnScope ["_law_script", "_law_index", "_law_seed"] ["_law_script", "_law_index"] (C8.fnScope (topS 43)) := C8.fnScope_by (by decide +kernel)
theorem sc_law_random : FnScope ["_law_generator_here", "_law_bound", "_law_drawn", "_law_turn"] ["_law_generator_here", "_law_bound"] (C8.fnScope (topS 44)) := C8.fnScope_by (by decide +kernel)
theorem sc_law_letters : FnScope ["_law_generator_here", "_law_start", "_law_step", "_law_at"] ["_law_generator_here"] (C8.fnScope (topS 45)) := C8.fnScope_by (by decide +kernel)
theorem sc_law_word : FnScope ["_law_generator_here", "_law_letters_here", "_law_least", "_law_most", "_law_many", "_law_at"] ["_law_generator_here", "_law_letters_here", "_law_least", "_law_most"] (C8.fnScope (topS 46)) := C8.fnScope_by (by decide +kernel)
theorem sc_law_base : FnScope ["_law_generator_here", "_law_letters_here", "_law_word_here", "_law_at"] ["_law_generator_here", "_law_letters_here"] (C8.fnScope (topS 47)) := C8.fnScope_by (by decide +kernel)
theorem sc_law_count : FnScope ["_law_generator_here", "_law_great", "_law_kind"] ["_law_generator_here", "_law_great"] (C8.fnScope (topS 48)) := C8.fnScope_by (by decide +kernel)
theorem sc_law_pieces : FnScope ["_law_generator_here", "_law_letters_here", "_law_most", "_law_great", "_law_found", "_law_word_here", "_law_number", "_law_kind", "_law_by"] ["_law_generator_here", "_law_letters_here", "_law_most", "_law_great"] (C8.fnScope (topS 49)) := C8.fnScope_by (by decide +kernel)
theorem sc_law_tidied : FnScope ["_law_pieces_here", "_law_found", "_law_word_here", "_law_times", "_law_piece"] ["_law_pieces_here"] (C8.fnScope (topS 50)) := C8.fnScope_by (by decide +kernel)
theorem sc_law_long : FnScope ["_law_pieces_here", "_law_word_here", "_law_times"] ["_law_pieces_here"] (C8.fnScope (topS 51)) := C8.fnScope_by (by decide +kernel)
theorem sc_law_letter : FnScope ["_law_pieces_here", "_law_at", "_law_word_here", "_law_times"] ["_law_pieces_here", "_law_at"] (C8.fnScope (topS 52)) := C8.fnScope_by (by decide +kernel)
theorem sc_law_part : FnScope ["_law_pieces_here", "_law_low", "_law_high", "_law_found", "_law_start", "_law_word_here", "_law_times", "_law_end", "_law_one", "_law_other", "_law_ahead", "_law_at"] ["_law_pieces_here", "_law_low", "_law_high"] (C8.fnScope (topS 53)) := C8.fnScope_by (by decide +kernel)
theorem sc_law_spelled_once : FnScope ["_law_generator_here", "_law_pieces_here", "_law_at", "_law_found", "_law_word_here", "_law_times", "_law_kind", "_law_by", "_law_less", "_law_ways", "_law_ahead"] ["_law_generator_here", "_law_pieces_here"] (C8.fnScope (topS 54)) := C8.fnScope_by (by decide +kernel)
theorem sc_law_spelled : FnScope ["_law_generator_here", "_law_pieces_here", "_law_found", "_law_turn"] ["_law_generator_here", "_law_pieces_here"] (C8.fnScope (topS 55)) := C8.fnScope_by (by decide +kernel)
theorem sc_law_places : FnScope ["_law_generator_here", "_law_pieces_here", "_law_found", "_law_start", "_law_long_here", "_law_word_here", "_law_times", "_law_at", "_law_turn"] ["_law_generator_here", "_law_pieces_here"] (C8.fnScope (topS 56)) := C8.fnScope_by (by decide +kernel)
theorem sc_law_same_right : FnScope ["_law_one", "_law_pieces_here", "_law_spelled_here", "_law_other", "_law_long_here"] ["_law_one", "_law_pieces_here", "_law_spelled_here"] (C8.fnScope (topS 57)) := C8.fnScope_by (by decide +kernel)
theorem sc_law_changed_right : FnScope ["_law_generator_here", "_law_one", "_law_pieces_here", "_law_letters_here", "_law_at", "_law_old", "_law_long_here", "_law_letter_here", "_law_new", "_law_ahead", "_law_behind", "_law_made", "_law_other", "_law_due", "_law_cut", "_law_left", "_law_right", "_law_against"] ["_law_generator_here", "_law_one", "_law_pieces_here", "_law_letters_here", "_law_at"] (C8.fnScope (topS 58)) := C8.fnScope_by (by decide +kernel)
theorem sc_law_two_right : FnScope ["_law_generator_here", "_law_one", "_law_pieces_here", "_law_other", "_law_others", "_law_many", "_law_least", "_law_at", "_law_due"] ["_law_generator_here", "_law_one", "_law_pieces_here", "_law_other", "_law_others"] (C8.fnScope (topS 59)) := C8.fnScope_by (by decide +kernel)
theorem sc_law : FnScope ["_law_script", "_law_index", "_law_generator_here", "_law_letters_here", "_law_pieces_here", "_law_others", "_law_one", "_law_turn", "_law_at"] ["_law_script"] (C8.fnScope (topS 60)) := C8.fnScope_by (by decide +kernel)
structure Txt (K : PySem.W.Frag) (mg : Str → Option Value) (C : Addr) : Prop where
  k_KeptWord : ClF K mg "KeptWord" C
  f_ends : NoAttr K C "_ends"
  f_pieces : NoAttr K C "_pieces"
  d_wall : DefF K mg "_wall" (topS 0) ["k"]
  d_is_whole : DefF K mg "is_whole" (topS 9) ["value"]
  d_is_count : DefF K mg "is_count" (topS 10) ["value"]
  d_is_within : DefF K mg "is_within" (topS 11) ["value", "low", "high"]
  d_is_lettered : DefF K mg "is_lettered" (topS 12) ["value", "most"]
  d_need_within : DefF K mg "need_within" (topS 13) ["value", "low", "high"]
  d_turned_word : DefF K mg "turned_word" (topS 15) ["word", "by"]
  d_stretch : DefF K mg "stretch" (topS 16) ["word", "start", "size"]
  d_alike_ahead : DefF K mg "alike_ahead" (topS 17) ["one", "other"]
  d_is_kept_piece : DefF K mg "is_kept_piece" (topS 22) ["value"]
  d_need_kept_pieces : DefF K mg "need_kept_pieces" (topS 23) ["value"]
  d_put_together : DefF K mg "put_together" (topS 24) ["pieces"]
  d_ends_of : DefF K mg "ends_of" (topS 25) ["pieces"]
  d_stretch_pieces : DefF K mg "stretch_pieces" (topS 26) ["word", "low", "high"]
  d_KeptWord___init__ : MetF K C "__init__" "KeptWord.__init__" (inClass (topS 27) 0) ["self", "pieces"]
  d_KeptWord_pieces : MetF K C "pieces" "KeptWord.pieces" (inClass (topS 27) 1) ["self"]
  d_KeptWord_length : MetF K C "length" "KeptWord.length" (inClass (topS 27) 2) ["self"]
  d_KeptWord_letter : MetF K C "letter" "KeptWord.letter" (inClass (topS 27) 3) ["self", "at"]
  d_KeptWord_part : MetF K C "part" "KeptWord.part" (inClass (topS 27) 4) ["self", "low", "high"]
  d_KeptWord_plain : MetF K C "plain" "KeptWord.plain" (inClass (topS 27) 5) ["self"]
  d_piece_index : DefF K mg "piece_index" (topS 28) ["ends", "at"]
  d_stretch_of : DefF K mg "stretch_of" (topS 29) ["pieces", "ends", "low", "high"]
  d_kept_of : DefF K mg "kept_of" (topS 30) ["pieces"]
  d_need_kept : DefF K mg "need_kept" (topS 31) ["value"]
  d_sizes_of : DefF K mg "sizes_of" (topS 33) ["pieces"]
  d_place_within : DefF K mg "place_within" (topS 34) ["sizes", "at"]
  d_alike_from : DefF K mg "alike_from" (topS 35) ["one", "one_at", "other", "other_at"]
  d_agree : DefF K mg "agree" (topS 37) ["one", "other"]
  d_compare : DefF K mg "compare" (topS 38) ["one", "other"]
  d_same_kept : DefF K mg "same_kept" (topS 39) ["one", "other"]
  d_law_cell : DefF K mg "_law_cell" (topS 41) ["_law_script", "_law_index"]
  d_law_hash : DefF K mg "_law_hash" (topS 42) ["_law_seed", "_law_index"]
  d_law_generator : DefF K mg "_law_generator" (topS 43) ["_law_script", "_law_index"]
  d_law_random : DefF K mg "_law_random" (topS 44) ["_law_generator_here", "_law_bound"]
  d_law_letters : DefF K mg "_law_letters" (topS 45) ["_law_generator_here"]
  d_law_word : DefF K mg "_law_word" (topS 46) ["_law_generator_here", "_law_letters_here", "_law_least", "_law_most"]
  d_law_base : DefF K mg "_law_base" (topS 47) ["_law_generator_here", "_law_letters_here"]
  d_law_count : DefF K mg "_law_count" (topS 48) ["_law_generator_here", "_law_great"]
  d_law_pieces : DefF K mg "_law_pieces" (topS 49) ["_law_generator_here", "_law_letters_here", "_law_most", "_law_great"]
  d_law_tidied : DefF K mg "_law_tidied" (topS 50) ["_law_pieces_here"]
  d_law_long : DefF K mg "_law_long" (topS 51) ["_law_pieces_here"]
  d_law_letter : DefF K mg "_law_letter" (topS 52) ["_law_pieces_here", "_law_at"]
  d_law_part : DefF K mg "_law_part" (topS 53) ["_law_pieces_here", "_law_low", "_law_high"]
  d_law_spelled_once : DefF K mg "_law_spelled_once" (topS 54) ["_law_generator_here", "_law_pieces_here"]
  d_law_spelled : DefF K mg "_law_spelled" (topS 55) ["_law_generator_here", "_law_pieces_here"]
  d_law_places : DefF K mg "_law_places" (topS 56) ["_law_generator_here", "_law_pieces_here"]
  d_law_same_right : DefF K mg "_law_same_right" (topS 57) ["_law_one", "_law_pieces_here", "_law_spelled_here"]
  d_law_changed_right : DefF K mg "_law_changed_right" (topS 58) ["_law_generator_here", "_law_one", "_law_pieces_here", "_law_letters_here", "_law_at"]
  d_law_two_right : DefF K mg "_law_two_right" (topS 59) ["_law_generator_here", "_law_one", "_law_pieces_here", "_law_other", "_law_others"]
  d_law : DefF K mg "law" (topS 60) ["_law_script"]
  m_bool : mg "bool" = none
  m_enumerate : mg "enumerate" = none
  m_int : mg "int" = none
  m_isinstance : mg "isinstance" = none
  m_len : mg "len" = none
  m_list : mg "list" = none
  m_max : mg "max" = none
  m_min : mg "min" = none
  m_range : mg "range" = none
  m_str : mg "str" = none
  m_sum : mg "sum" = none
  m_tuple : mg "tuple" = none
  m_zip : mg "zip" = none
  k_MOST_KEPT_LETTERS : ∃ u, mg "MOST_KEPT_LETTERS" = some u ∧ RelV (.int 10000) u
  k_MOST_KEPT_PIECES : ∃ u, mg "MOST_KEPT_PIECES" = some u ∧ RelV (.int 5000) u
  k_MOST_KEPT_WORD : ∃ u, mg "MOST_KEPT_WORD" = some u ∧ RelV (.int 2000) u
end K04

set_option linter.all false
set_option maxRecDepth 100000
/-! normal lists of pieces: the program's steps as functions, and what they keep -/
namespace NM
open WM
abbrev F := List Nat
abbrev Pn := W × F
def isOpen (f : F) : Bool := f.tail.any fun x => decide (x ≠ 0)
def isPow (p : Pn) : Bool := decide (p.2.headD 0 = 0)
def one1 (m : Nat) : F := 1 :: List.replicate m 0
def fixP (w : W) (m : Nat) : Pn := (w, one1 m)
def addF (f g : F) : F := List.zipWith (fun x y => x + y) f g
def timesF (k : Nat) (f : F) : F := f.map fun x => k * x
def joinF (acc : List Pn) (w : W) (m : Nat) : List Pn :=
  match acc.getLast? with
  | some q => if isPow q then (if w = [] then acc else acc ++ [fixP w m]) else (if q.1 ++ w = [] then acc.dropLast else acc.dropLast ++ [fixP (q.1 ++ w) m])
  | none => if w = [] then acc else acc ++ [fixP w m]
/-- a power, behind what is no fixed piece -/
def pushP (acc : List Pn) (u : W) (f : F) : List Pn :=
  match acc.getLast? with
  | some q => if isPow q ∧ q.1 = u then acc.dropLast ++ [(u, addF q.2 f)] else acc ++ [(u, f)]
  | none => acc ++ [(u, f)]
def putP (acc : List Pn) (u : W) (f : F) : List Pn :=
  match acc.getLast? with
  | some q => if isPow q then joinF (pushP acc u f) [] (f.length - 1)
    else joinF (pushP (joinF acc.dropLast (q.1.take (q.1.length - movedE q.1 u)) (f.length - 1)) (rotR u (movedE q.1 u)) f) (q.1.drop (q.1.length - movedE q.1 u)) (f.length - 1)
  | none => joinF (pushP acc u f) [] (f.length - 1)
def stepA (acc : List Pn) (p : Pn) : List Pn := if p.1 ≠ [] ∧ isOpen p.2 then putP acc (p.1.take (rootN p.1)) (timesF (p.1.length / rootN p.1) (0 :: p.2.tail)) else acc
def stepB (acc : List Pn) (p : Pn) : List Pn := if p.1 ≠ [] ∧ p.2.headD 0 ≠ 0 then joinF acc (pw p.1 (p.2.headD 0)) (p.2.length - 1) else acc
def stepN (acc : List Pn) (p : Pn) : List Pn := stepB (stepA acc p) p
def normL (ps : List Pn) : List Pn := ps.foldl stepN []

/-! ### what is written at a point -/
def dot : List Nat → List Nat → Nat
  | x :: xs, y :: ys => x * y + dot xs ys
  | _, _ => 0
def valF (f : F) (pt : List Nat) : Nat := f.headD 0 + dot f.tail pt
def wrt (pt : List Nat) (p : Pn) : W := pw p.1 (valF p.2 pt)
def wr (pt : List Nat) : List Pn → W
  | [] => []
  | p :: r => wrt pt p ++ wr pt r
theorem wr_app (pt : List Nat) : ∀ a b, wr pt (a ++ b) = wr pt a ++ wr pt b
  | [], b => rfl
  | p :: r, b => by rw [List.cons_append, wr, wr, wr_app pt r b, List.append_assoc]
theorem wr_one (pt : List Nat) (p : Pn) : wr pt [p] = wrt pt p := by rw [wr, wr, List.append_nil]
theorem dot_zero : ∀ (m : Nat) (pt : List Nat), dot (List.replicate m 0) pt = 0
  | 0, _ => by simp [dot]
  | m + 1, [] => by simp [dot, List.replicate_succ]
  | m + 1, y :: ys => by rw [List.replicate_succ, dot, dot_zero m ys]; simp
theorem val_one (m : Nat) (pt : List Nat) : valF (one1 m) pt = 1 := by
  unfold valF one1
  simp [dot_zero]
theorem pw_one (w : W) : pw w 1 = w := by rw [pw_succ, pw_zero, List.append_nil]
theorem wrt_fix (pt : List Nat) (w : W) (m : Nat) : wrt pt (fixP w m) = w := by
  unfold wrt fixP
  rw [val_one, pw_one]
theorem last_split {α : Type} {l : List α} {q : α} (h : l.getLast? = some q) : l = l.dropLast ++ [q] := by
  obtain ⟨ne, e⟩ := List.getLast?_eq_some_iff.mp h
  subst e
  simp
theorem dot_add : ∀ (f g pt : List Nat), f.length = g.length → dot (List.zipWith (fun x y => x + y) f g) pt = dot f pt + dot g pt
  | [], [], _, _ => by simp [dot]
  | _ :: _, [], _, h => by simp at h
  | [], _ :: _, _, h => by simp at h
  | x :: f, y :: g, [], _ => by simp [dot]
  | x :: f, y :: g, z :: pt, h => by
    rw [List.zipWith_cons_cons, dot, dot, dot, dot_add f g pt (by simpa using h), Nat.add_mul]
    omega
theorem val_add {f g : F} (pt : List Nat) (h : f.length = g.length) : valF (addF f g) pt = valF f pt + valF g pt := by
  cases f with
  | nil =>
    cases g with
    | nil => simp [valF, addF, dot]
    | cons _ _ => simp at h
  | cons x f =>
    cases g with
    | nil => simp at h
    | cons y g =>
      unfold valF addF
      rw [List.zipWith_cons_cons]
      simp only [List.headD_cons, List.tail_cons]
      rw [dot_add f g pt (by simpa using h)]
      omega
theorem dot_times (k : Nat) : ∀ (f pt : List Nat), dot (f.map fun x => k * x) pt = k * dot f pt
  | [], _ => by simp [dot]
  | x :: f, [] => by simp [dot]
  | x :: f, y :: pt => by rw [List.map_cons, dot, dot, dot_times k f pt, Nat.mul_add, Nat.mul_assoc]
theorem val_times (k : Nat) (f : F) (pt : List Nat) : valF (timesF k f) pt = k * valF f pt := by
  cases f with
  | nil => simp [valF, timesF, dot]
  | cons x f =>
    unfold valF timesF
    rw [List.map_cons]
    simp only [List.headD_cons, List.tail_cons]
    rw [dot_times, Nat.mul_add]
/-- forms as they stand in a list for m unknowns -/
def LenF (m : Nat) (ps : List Pn) : Prop := ∀ p ∈ ps, p.2.length = m + 1
/-- the fixed pieces have the form of one -/
def FixOk (m : Nat) (ps : List Pn) : Prop := ∀ p ∈ ps, isPow p = false → p.2 = one1 m
theorem isPow_fix (w : W) (m : Nat) : isPow (fixP w m) = false := rfl
theorem wr_joinF {acc : List Pn} {m : Nat} (h : FixOk m acc) (w : W) (pt : List Nat) : wr pt (joinF acc w m) = wr pt acc ++ w := by
  unfold joinF
  split
  · next q hq =>
    have e := last_split hq
    have mem : q ∈ acc := List.mem_of_getLast? hq
    split
    · split
      · next z => rw [z, List.append_nil]
      · rw [wr_app, wr_one, wrt_fix]
    · next np =>
      have f1 := h q mem (by simpa using np)
      have wq : wrt pt q = q.1 := by unfold wrt; rw [f1, val_one, pw_one]
      have ew : wr pt acc = wr pt acc.dropLast ++ q.1 := by
        conv => lhs; rw [e]
        rw [wr_app, wr_one, wq]
      split
      · next z =>
        rw [ew]
        have z1 := (List.append_eq_nil_iff.mp z).1
        have z2 := (List.append_eq_nil_iff.mp z).2
        rw [z1, z2, List.append_nil, List.append_nil]
      · rw [wr_app, wr_one, wrt_fix, ew, List.append_assoc]
  · split
    · next z => rw [z, List.append_nil]
    · rw [wr_app, wr_one, wrt_fix]
theorem wr_pushP {acc : List Pn} {m : Nat} (h : LenF m acc) {u : W} {f : F} (hf : f.length = m + 1) (pt : List Nat) : wr pt (pushP acc u f) = wr pt acc ++ wrt pt (u, f) := by
  unfold pushP
  split
  · next q hq =>
    have e := last_split hq
    have mem : q ∈ acc := List.mem_of_getLast? hq
    split
    · next z =>
      have ew : wr pt acc = wr pt acc.dropLast ++ wrt pt q := by
        conv => lhs; rw [e]
        rw [wr_app, wr_one]
      rw [wr_app, wr_one, ew, List.append_assoc]
      congr 1
      show pw u (valF (addF q.2 f) pt) = pw q.1 (valF q.2 pt) ++ pw u (valF f pt)
      rw [val_add pt (by rw [h q mem, hf]), pw_add, z.2]
    · rw [wr_app, wr_one]
  · rw [wr_app, wr_one]

/-! ### the fold's facts -/
theorem get_dropLast {α : Type} {l : List α} {i : Nat} {x : α} (h : l.dropLast[i]? = some x) : l[i]? = some x := by
  rw [List.getElem?_dropLast] at h
  split at h
  · exact h
  · cases h
theorem mem_dropLast {α : Type} {l : List α} {x : α} (h : x ∈ l.dropLast) : x ∈ l := List.dropLast_subset _ h
structure NormP (m : Nat) (p : Pn) : Prop where
  ne : p.1 ≠ []
  len : p.2.length = m + 1
  fix : isPow p = false → p.2 = one1 m
  pow : isPow p = true → Prim p.1 ∧ isOpen p.2 = true
structure Adj (p q : Pn) : Prop where
  fix : isPow p = false → isPow q = true ∧ p.1.getLast? ≠ q.1.getLast?
  pow : isPow p = true → isPow q = true → p.1 ≠ q.1
structure Nm (m : Nat) (ps : List Pn) : Prop where
  all : ∀ p ∈ ps, NormP m p
  adj : ∀ i p q, ps[i]? = some p → ps[i + 1]? = some q → Adj p q
theorem Nm.nil {m : Nat} : Nm m [] := ⟨fun p h => absurd h List.not_mem_nil, fun i p q h => by simp at h⟩
theorem Nm.init {m : Nat} {l : List Pn} (h : Nm m l) : Nm m l.dropLast :=
  ⟨fun p hp => h.all p (mem_dropLast hp), fun i p q hp hq => h.adj i p q (get_dropLast hp) (get_dropLast hq)⟩
theorem Nm.snoc {m : Nat} {l : List Pn} {p : Pn} (h : Nm m l) (hp : NormP m p) (ha : ∀ q, l.getLast? = some q → Adj q p) : Nm m (l ++ [p]) := by
  refine ⟨fun q hq => ?_, fun i a b hi hj => ?_⟩
  · rcases List.mem_append.mp hq with z | z
    · exact h.all q z
    · rw [List.mem_singleton.mp z]
      exact hp
  · by_cases z : i + 1 < l.length
    · rw [List.getElem?_append_left (by omega)] at hi
      rw [List.getElem?_append_left z] at hj
      exact h.adj i a b hi hj
    · by_cases y : i + 1 = l.length
      · rw [List.getElem?_append_left (by omega)] at hi
        rw [List.getElem?_append_right (by omega), y, Nat.sub_self] at hj
        cases hj
        refine ha a ?_
        rw [List.getLast?_eq_getElem?, ← hi]
        congr 1
        omega
      · rw [List.getElem?_append_right (by omega), List.getElem?_eq_none (by simp; omega)] at hj
        cases hj
/-- the piece ahead of the last one -/
theorem Nm.pre {m : Nat} {l : List Pn} {p q : Pn} (h : Nm m l) (hp : l.getLast? = some p) (hq : l.dropLast.getLast? = some q) : Adj q p := by
  rw [List.getLast?_eq_getElem?] at hp hq
  have hq' := get_dropLast hq
  rw [List.length_dropLast] at hq'
  have hl := (List.getElem?_eq_some_iff.mp hq).1
  rw [List.length_dropLast] at hl
  refine h.adj (l.length - 1 - 1) q p hq' ?_
  rw [← hp]
  congr 1
  omega
theorem fixP_norm {m : Nat} {w : W} (h : w ≠ []) : NormP m (fixP w m) := ⟨h, by simp [fixP, one1], fun _ => rfl, fun z => by cases z⟩
/-- a fixed word behind a normal list -/
theorem nm_joinF {m : Nat} {acc : List Pn} (h : Nm m acc) (w : W) : Nm m (joinF acc w m) := by
  unfold joinF
  split
  · next q hq =>
    split
    · next pq =>
      split
      · exact h
      · next ne =>
        refine h.snoc (fixP_norm ne) fun q' hq' => ?_
        rw [hq] at hq'
        cases hq'
        exact ⟨fun z => (by rw [pq] at z; cases z), fun _ z => (by cases z)⟩
    · next pq =>
      split
      · exact h.init
      · next ne =>
        refine h.init.snoc (fixP_norm ne) fun q' hq' => ?_
        have a := h.pre hq hq'
        have pq' : isPow q = false := by simpa using pq
        exact ⟨fun z => (by have := (a.fix z).1; rw [pq'] at this; cases this), fun _ z => (by cases z)⟩
  · next hn =>
    split
    · exact h
    · next ne =>
      refine h.snoc (fixP_norm ne) fun q' hq' => ?_
      rw [hn] at hq'
      cases hq'
theorem isOpen_iff {f : F} : isOpen f = true ↔ ∃ x ∈ f.tail, x ≠ 0 := by
  unfold isOpen
  rw [List.any_eq_true]
  constructor
  · rintro ⟨x, hx, h⟩
    exact ⟨x, hx, by simpa using h⟩
  · rintro ⟨x, hx, h⟩
    exact ⟨x, hx, by simpa using h⟩
theorem open_add {f g : F} (hl : f.length = g.length) (h : isOpen g = true) : isOpen (addF f g) = true := by
  obtain ⟨x, hx, h0⟩ := isOpen_iff.mp h
  refine isOpen_iff.mpr ?_
  cases f with
  | nil =>
    cases g with
    | nil => cases hx
    | cons _ _ => simp at hl
  | cons a f =>
    cases g with
    | nil => simp at hl
    | cons b g =>
      obtain ⟨i, hi⟩ := List.getElem?_of_mem (show x ∈ g from hx)
      have hi2 := (List.getElem?_eq_some_iff.mp hi).1
      have hf : i < f.length := by simp at hl; omega
      refine ⟨f[i] + x, ?_, by omega⟩
      refine List.mem_of_getElem? (i := i) ?_
      show (List.zipWith (fun x y => x + y) f g)[i]? = _
      rw [List.getElem?_zipWith, List.getElem?_eq_getElem hf, hi]
theorem len_add {f g : F} (hl : f.length = g.length) : (addF f g).length = g.length := by
  unfold addF
  rw [List.length_zipWith]
  omega
theorem head_add {f g : F} (hl : f.length = g.length) (h1 : f.headD 0 = 0) (h2 : g.headD 0 = 0) : (addF f g).headD 0 = 0 := by
  cases f with
  | nil => simp [addF]
  | cons a f =>
    cases g with
    | nil => simp at hl
    | cons b g =>
      simp only [List.headD_cons] at h1 h2
      show a + b = 0
      omega
theorem pow_norm {m : Nat} {u : W} {f : F} (hu : Prim u) (hl : f.length = m + 1) (h0 : f.headD 0 = 0) (ho : isOpen f = true) : NormP m (u, f) ∧ isPow (u, f) = true := by
  have e : isPow (u, f) = true := decide_eq_true h0
  exact ⟨⟨hu.1, hl, fun z => (by rw [e] at z; cases z), fun _ => ⟨hu, ho⟩⟩, e⟩
/-- a power behind what does not end with its last letter -/
theorem nm_pushP {m : Nat} {acc : List Pn} (h : Nm m acc) {u : W} {f : F} (hu : Prim u) (hl : f.length = m + 1) (h0 : f.headD 0 = 0) (ho : isOpen f = true)
    (hx : ∀ q, acc.getLast? = some q → isPow q = false → q.1.getLast? ≠ u.getLast?) : Nm m (pushP acc u f) ∧ ∃ g, (pushP acc u f).getLast? = some (u, g) ∧ isPow (u, g) = true := by
  obtain ⟨np, pp⟩ := pow_norm hu hl h0 ho
  unfold pushP
  split
  · next q hq =>
    have mq := h.all q (List.mem_of_getLast? hq)
    split
    · next z =>
      obtain ⟨z1, z2⟩ := z
      have lq : q.2.length = f.length := by rw [mq.len, hl]
      have hq0 : q.2.headD 0 = 0 := of_decide_eq_true z1
      obtain ⟨np2, pp2⟩ := pow_norm (m := m) (f := addF q.2 f) hu (by rw [len_add lq, hl]) (head_add lq hq0 h0) (open_add lq ho)
      refine ⟨h.init.snoc np2 fun q' hq' => ?_, _, by simp, pp2⟩
      have a := h.pre hq hq'
      exact ⟨fun y => ⟨pp2, by have := (a.fix y).2; rw [z2] at this; exact this⟩, fun y _ => by have := a.pow y z1; rw [z2] at this; exact this⟩
    · next z =>
      refine ⟨h.snoc np fun q' hq' => ?_, _, by simp, pp⟩
      rw [hq] at hq'
      cases hq'
      exact ⟨fun y => ⟨pp, hx q hq y⟩, fun y _ e => z ⟨y, e⟩⟩
  · next hn =>
    refine ⟨h.snoc np fun q' hq' => ?_, _, by simp, pp⟩
    rw [hn] at hq'
    cases hq'
theorem joinF_nil {acc : List Pn} {q : Pn} {m : Nat} (h : acc.getLast? = some q) (hp : isPow q = true) : joinF acc [] m = acc := by
  unfold joinF
  rw [h]
  simp [hp]
theorem nm_putP {m : Nat} {acc : List Pn} (h : Nm m acc) {u : W} {f : F} (hu : Prim u) (hl : f.length = m + 1) (h0 : f.headD 0 = 0) (ho : isOpen f = true) : Nm m (putP acc u f) := by
  have em : f.length - 1 = m := by omega
  unfold putP
  rw [em]
  split
  · next q hq =>
    split
    · next pq =>
      exact nm_joinF (nm_pushP h hu hl h0 ho fun q' hq' z => by rw [hq] at hq'; cases hq'; rw [pq] at z; cases z).1 _
    · next pq =>
      have pq' : isPow q = false := by simpa using pq
      refine nm_joinF (nm_pushP (nm_joinF h.init _) (prim_rotR hu _) hl h0 ho fun q' hq' z => ?_).1 _
      by_cases e : q.1.take (q.1.length - movedE q.1 u) = []
      · -- nothing is left of the fixed piece: what is ahead is a power
        exfalso
        rw [e] at hq'
        have : joinF acc.dropLast [] m = acc.dropLast := by
          cases hd : acc.dropLast.getLast? with
          | none =>
            unfold joinF
            rw [hd]
            simp
          | some r =>
            have a := h.pre hq hd
            have pr : isPow r = true := by
              cases y : isPow r with
              | true => rfl
              | false =>
                have := (a.fix y).1
                rw [pq'] at this
                cases this
            exact joinF_nil hd pr
        rw [this] at hq'
        have a := h.pre hq hq'
        have := (a.fix z).1
        rw [pq'] at this
        cases this
      · have lt : movedE q.1 u < q.1.length := by
          have := List.length_pos_iff.mpr e
          rw [List.length_take] at this
          omega
        have eq : joinF acc.dropLast (q.1.take (q.1.length - movedE q.1 u)) m = acc.dropLast ++ [fixP (q.1.take (q.1.length - movedE q.1 u)) m] := by
          unfold joinF
          split
          · next r hr =>
            have a := h.pre hq hr
            have pr : isPow r = true := by
              cases y : isPow r with
              | true => rfl
              | false =>
                have := (a.fix y).1
                rw [pq'] at this
                cases this
            rw [if_pos pr, if_neg e]
          · rw [if_neg e]
        rw [eq] at hq'
        rw [List.getLast?_append] at hq'
        cases hq'
        exact moved_next hu.1 lt
  · next hn =>
    exact nm_joinF (nm_pushP h hu hl h0 ho fun q' hq' => by rw [hn] at hq'; cases hq').1 _
theorem open_times {k : Nat} (hk : 0 < k) {f : F} (h : isOpen f = true) : isOpen (timesF k (0 :: f.tail)) = true := by
  obtain ⟨x, hx, h0⟩ := isOpen_iff.mp h
  refine isOpen_iff.mpr ⟨k * x, List.mem_map.mpr ⟨x, hx, rfl⟩, ?_⟩
  have := Nat.mul_pos hk (Nat.pos_of_ne_zero h0)
  omega
theorem root_times {w : W} (h : w ≠ []) : 0 < w.length / rootN w := Nat.div_pos (rootN_le h) (rootN_pos h)
theorem nm_stepA {m : Nat} {acc : List Pn} (h : Nm m acc) {p : Pn} (hl : p.2.length = m + 1) : Nm m (stepA acc p) := by
  unfold stepA
  split
  · next z =>
    refine nm_putP h (root_prim z.1) ?_ ?_ (open_times (root_times z.1) z.2)
    · unfold timesF
      simp [hl]
    · simp [timesF]
  · exact h
theorem nm_stepB {m : Nat} {acc : List Pn} (h : Nm m acc) {p : Pn} (hl : p.2.length = m + 1) : Nm m (stepB acc p) := by
  unfold stepB
  split
  · have e : p.2.length - 1 = m := by omega
    rw [e]
    exact nm_joinF h _
  · exact h
theorem nm_fold {m : Nat} : ∀ (ps acc : List Pn), Nm m acc → LenF m ps → Nm m (ps.foldl stepN acc)
  | [], _, h, _ => h
  | p :: r, acc, h, hl => nm_fold r _ (nm_stepB (nm_stepA h (hl p List.mem_cons_self)) (hl p List.mem_cons_self)) fun q hq => hl q (List.mem_cons_of_mem _ hq)
theorem nm_normL {m : Nat} {ps : List Pn} (h : LenF m ps) : Nm m (normL ps) := nm_fold ps [] .nil h
theorem Nm.lenF {m : Nat} {ps : List Pn} (h : Nm m ps) : LenF m ps := fun p hp => (h.all p hp).len
theorem Nm.fixOk {m : Nat} {ps : List Pn} (h : Nm m ps) : FixOk m ps := fun p hp => (h.all p hp).fix
/-! ### what is written stays -/
theorem wr_putP {m : Nat} {acc : List Pn} (h : Nm m acc) {u : W} {f : F} (hu : Prim u) (hl : f.length = m + 1) (h0 : f.headD 0 = 0) (ho : isOpen f = true) (pt : List Nat) : wr pt (putP acc u f) = wr pt acc ++ wrt pt (u, f) := by
  have em : f.length - 1 = m := by omega
  have one : ∀ {acc : List Pn}, Nm m acc → (∀ q, acc.getLast? = some q → isPow q = true) → wr pt (joinF (pushP acc u f) [] m) = wr pt acc ++ wrt pt (u, f) := fun {acc} h hp => by
    obtain ⟨n, g, hg, pg⟩ := nm_pushP h hu hl h0 ho fun q' hq' z => by rw [hp q' hq'] at z; cases z
    rw [joinF_nil hg pg, wr_pushP h.lenF hl]
  unfold putP
  rw [em]
  split
  · next q hq =>
    split
    · next pq => exact one h fun q' hq' => by rw [hq] at hq'; cases hq'; exact pq
    · next pq =>
      have pq' : isPow q = false := by simpa using pq
      have e := last_split hq
      have mq := h.all q (List.mem_of_getLast? hq)
      have wq : wrt pt q = q.1 := by unfold wrt; rw [mq.fix pq', val_one, pw_one]
      have n1 := nm_joinF h.init (q.1.take (q.1.length - movedE q.1 u)) (m := m)
      have n2 : Nm m (putP acc u f) := nm_putP h hu hl h0 ho
      have l2 : FixOk m (pushP (joinF acc.dropLast (q.1.take (q.1.length - movedE q.1 u)) m) (rotR u (movedE q.1 u)) f) := by
        intro p hp z
        unfold pushP at hp
        have pr : isPow (rotR u (movedE q.1 u), f) = true := decide_eq_true h0
        split at hp
        · next r hr =>
          split at hp
          · next y =>
            rcases List.mem_append.mp hp with x | x
            · exact n1.fixOk p (mem_dropLast x) z
            · rw [List.mem_singleton.mp x] at z
              have : isPow (rotR u (movedE q.1 u), addF r.2 f) = true := decide_eq_true (head_add (by rw [n1.lenF r (List.mem_of_getLast? hr), hl]) (of_decide_eq_true y.1) h0)
              rw [this] at z
              cases z
          · rcases List.mem_append.mp hp with x | x
            · exact n1.fixOk p x z
            · rw [List.mem_singleton.mp x, pr] at z
              cases z
        · rcases List.mem_append.mp hp with x | x
          · exact n1.fixOk p x z
          · rw [List.mem_singleton.mp x, pr] at z
            cases z
      rw [wr_joinF l2, wr_pushP n1.lenF hl, wr_joinF h.init.fixOk]
      have ew : wr pt acc = wr pt acc.dropLast ++ q.1 := by
        conv => lhs; rw [e]
        rw [wr_app, wr_one, wq]
      rw [ew, moved_drop hu.1]
      have mv := move_pw u (movedE q.1 u) (valF f pt)
      rw [List.append_assoc, List.append_assoc, List.append_assoc]
      congr 1
      show q.1.take _ ++ (pw (rotR u (movedE q.1 u)) (valF f pt) ++ tailE u (movedE q.1 u)) = q.1 ++ pw u (valF f pt)
      rw [mv, ← moved_drop hu.1, ← List.append_assoc, List.take_append_drop]
  · next hn => exact one h fun q' hq' => by rw [hn] at hq'; cases hq'
theorem pw_mul (w : W) (a : Nat) : ∀ b, pw (pw w a) b = pw w (a * b)
  | 0 => by simp [pw]
  | b + 1 => by rw [pw_succ, pw_mul w a b, ← pw_add, Nat.mul_succ, Nat.add_comm]
theorem pw_nil (n : Nat) : pw [] n = [] := List.length_eq_zero_iff.mp (by rw [pw_len]; simp)
theorem val_split (f : F) (pt : List Nat) : valF f pt = valF (0 :: f.tail) pt + f.headD 0 := by
  unfold valF
  simp
  omega
theorem dot_closed : ∀ {f : List Nat}, (∀ x ∈ f, x = 0) → ∀ pt : List Nat, dot f pt = 0
  | [], _, _ => by simp [dot]
  | x :: f, h, [] => by simp [dot]
  | x :: f, h, y :: pt => by
    rw [dot, dot_closed (fun z hz => h z (List.mem_cons_of_mem _ hz)) pt, h x List.mem_cons_self]
    simp
theorem wr_stepN {m : Nat} {acc : List Pn} (h : Nm m acc) {p : Pn} (hl : p.2.length = m + 1) (pt : List Nat) : wr pt (stepN acc p) = wr pt acc ++ wrt pt p := by
  have hA := nm_stepA h hl
  have wA : wr pt (stepA acc p) = wr pt acc ++ pw p.1 (valF (0 :: p.2.tail) pt) := by
    unfold stepA
    split
    · next z =>
      have lt : (timesF (p.1.length / rootN p.1) (0 :: p.2.tail)).length = m + 1 := by unfold timesF; simp [hl]
      rw [wr_putP h (root_prim z.1) lt (by simp [timesF]) (open_times (root_times z.1) z.2)]
      congr 1
      show pw (p.1.take (rootN p.1)) (valF (timesF _ _) pt) = _
      rw [val_times, ← pw_mul, ← root_pw z.1]
    · next z =>
      by_cases ne : p.1 = []
      · rw [ne, pw_nil, List.append_nil]
      · have hc : ∀ x ∈ p.2.tail, x = 0 := fun x hx => Classical.byContradiction fun y => z ⟨ne, isOpen_iff.mpr ⟨x, hx, y⟩⟩
        rw [show valF (0 :: p.2.tail) pt = 0 by unfold valF; simp [dot_closed hc], pw_zero, List.append_nil]
  have wB : wr pt (stepB (stepA acc p) p) = wr pt (stepA acc p) ++ pw p.1 (p.2.headD 0) := by
    unfold stepB
    split
    · have e : p.2.length - 1 = m := by omega
      rw [e, wr_joinF hA.fixOk]
    · next z =>
      by_cases ne : p.1 = []
      · rw [ne, pw_nil, List.append_nil]
      · have : p.2.headD 0 = 0 := Classical.byContradiction fun y => z ⟨ne, y⟩
        rw [this, pw_zero, List.append_nil]
  unfold stepN
  rw [wB, wA, List.append_assoc, ← pw_add, ← val_split]
  rfl
theorem wr_fold {m : Nat} (pt : List Nat) : ∀ (ps acc : List Pn), Nm m acc → LenF m ps → wr pt (ps.foldl stepN acc) = wr pt acc ++ wr pt ps
  | [], acc, _, _ => by simp [wr]
  | p :: r, acc, h, hl => by
    have lp := hl p List.mem_cons_self
    rw [List.foldl_cons, show stepN acc p = stepB (stepA acc p) p from rfl, wr_fold pt r _ (nm_stepB (nm_stepA h lp) lp) (fun q hq => hl q (List.mem_cons_of_mem _ hq)), show stepB (stepA acc p) p = stepN acc p from rfl, wr_stepN h lp, List.append_assoc]
    rfl
/-- the normal list writes the same -/
theorem wr_normL {m : Nat} {ps : List Pn} (h : LenF m ps) (pt : List Nat) : wr pt (normL ps) = wr pt ps := wr_fold pt ps [] .nil h
end NM

set_option linter.all false
set_option maxRecDepth 100000
namespace NM
open WM
/-! ### the measure -/
def measP (p : Pn) : Nat := p.1.length * (p.2.headD 0 + (if isOpen p.2 then 1 else 0))
def meas (ps : List Pn) : Nat := (ps.map measP).sum
theorem meas_app (a b : List Pn) : meas (a ++ b) = meas a + meas b := by unfold meas; rw [List.map_append, List.sum_append]
theorem meas_one (p : Pn) : meas [p] = measP p := by simp [meas]
theorem open_one (m : Nat) : isOpen (one1 m) = false := by
  unfold isOpen one1
  rw [List.any_eq_false]
  intro x hx
  have := List.eq_of_mem_replicate (show x ∈ List.replicate m 0 from hx)
  simp [this]
theorem measP_fix (w : W) (m : Nat) : measP (fixP w m) = w.length := by
  unfold measP fixP
  simp only [open_one]
  simp [one1]
theorem meas_last {l : List Pn} {q : Pn} (h : l.getLast? = some q) : meas l = meas l.dropLast + measP q := by
  conv => lhs; rw [last_split h]
  rw [meas_app, meas_one]
theorem meas_joinF {m : Nat} {acc : List Pn} (h : FixOk m acc) (w : W) : meas (joinF acc w m) = meas acc + w.length := by
  unfold joinF
  split
  · next q hq =>
    split
    · split
      · next z => rw [z]; rfl
      · rw [meas_app, meas_one, measP_fix]
    · next np =>
      have f1 := h q (List.mem_of_getLast? hq) (by simpa using np)
      have mq : measP q = q.1.length := by
        have : q = fixP q.1 m := by unfold fixP; rw [← f1]
        conv => lhs; rw [this]
        rw [measP_fix]
      have ml := meas_last hq
      split
      · next z =>
        have z1 := congrArg List.length z
        rw [List.length_append, List.length_nil] at z1
        omega
      · rw [meas_app, meas_one, measP_fix, List.length_append]
        omega
  · split
    · next z => rw [z]; rfl
    · rw [meas_app, meas_one, measP_fix]
theorem measP_pow {u : W} {f : F} (h0 : f.headD 0 = 0) : measP (u, f) ≤ u.length := by
  unfold measP
  simp only [h0, Nat.zero_add]
  split
  · rw [Nat.mul_one]
    exact Nat.le_refl _
  · rw [Nat.mul_zero]
    exact Nat.zero_le _
theorem meas_pushP {acc : List Pn} {u : W} {f : F} (h0 : f.headD 0 = 0) (hx : ∀ q, acc.getLast? = some q → isPow q = true → q.1 = u → (addF q.2 f).headD 0 = 0 ∧ u.length ≤ measP q) : meas (pushP acc u f) ≤ meas acc + u.length := by
  unfold pushP
  split
  · next q hq =>
    have ml := meas_last hq
    split
    · next z =>
      obtain ⟨a, b⟩ := hx q hq z.1 z.2
      have := measP_pow (u := u) a
      rw [meas_app, meas_one]
      omega
    · have := measP_pow (u := u) h0
      rw [meas_app, meas_one]
      omega
  · have := measP_pow (u := u) h0
    rw [meas_app, meas_one]
    omega
theorem measP_le {m : Nat} {q : Pn} (h : NormP m q) : q.1.length ≤ measP q := by
  unfold measP
  cases e : isPow q with
  | false =>
    rw [h.fix e]
    simp [one1]
    exact Nat.le_mul_of_pos_right _ (by omega)
  | true =>
    rw [if_pos (h.pow e).2]
    exact Nat.le_mul_of_pos_right _ (by omega)
theorem meas_pushN {m : Nat} {acc : List Pn} (h : Nm m acc) {u : W} {f : F} (hl : f.length = m + 1) (h0 : f.headD 0 = 0) : meas (pushP acc u f) ≤ meas acc + u.length :=
  meas_pushP h0 fun q hq pq e => by
    have nq := h.all q (List.mem_of_getLast? hq)
    refine ⟨head_add (by rw [nq.len, hl]) (of_decide_eq_true pq) h0, ?_⟩
    rw [← e]
    exact measP_le nq
theorem fix_pushP {m : Nat} {acc : List Pn} (h : Nm m acc) {u : W} {f : F} (hl : f.length = m + 1) (h0 : f.headD 0 = 0) : FixOk m (pushP acc u f) := by
  intro p hp z
  unfold pushP at hp
  have pr : isPow (u, f) = true := decide_eq_true h0
  split at hp
  · next r hr =>
    split at hp
    · next y =>
      rcases List.mem_append.mp hp with x | x
      · exact h.fixOk p (mem_dropLast x) z
      · rw [List.mem_singleton.mp x] at z
        have : isPow (u, addF r.2 f) = true := decide_eq_true (head_add (by rw [h.lenF r (List.mem_of_getLast? hr), hl]) (of_decide_eq_true y.1) h0)
        rw [this] at z
        cases z
    · rcases List.mem_append.mp hp with x | x
      · exact h.fixOk p x z
      · rw [List.mem_singleton.mp x, pr] at z
        cases z
  · rcases List.mem_append.mp hp with x | x
    · exact h.fixOk p x z
    · rw [List.mem_singleton.mp x, pr] at z
      cases z
theorem meas_putP {m : Nat} {acc : List Pn} (h : Nm m acc) {u : W} {f : F} (hl : f.length = m + 1) (h0 : f.headD 0 = 0) : meas (putP acc u f) ≤ meas acc + u.length := by
  have em : f.length - 1 = m := by omega
  have one : ∀ {acc : List Pn}, Nm m acc → meas (joinF (pushP acc u f) [] m) ≤ meas acc + u.length := fun {acc} h => by
    rw [meas_joinF (fix_pushP h hl h0)]
    exact meas_pushN h hl h0
  unfold putP
  rw [em]
  split
  · next q hq =>
    split
    · exact one h
    · next pq =>
      have pq' : isPow q = false := by simpa using pq
      have mq := h.all q (List.mem_of_getLast? hq)
      have e : measP q = q.1.length := by
        have : q = fixP q.1 m := by unfold fixP; rw [← mq.fix pq']
        conv => lhs; rw [this]
        rw [measP_fix]
      have ml := meas_last hq
      have n1 := nm_joinF h.init (q.1.take (q.1.length - movedE q.1 u)) (m := m)
      rw [meas_joinF (fix_pushP n1 hl h0)]
      have a := meas_pushN n1 (u := rotR u (movedE q.1 u)) hl h0
      rw [meas_joinF h.init.fixOk, List.length_take, rotR_len] at a
      rw [List.length_drop]
      have := movedE_le q.1 u
      omega
  · exact one h
theorem meas_stepN {m : Nat} {acc : List Pn} (h : Nm m acc) {p : Pn} (hl : p.2.length = m + 1) : meas (stepN acc p) ≤ meas acc + measP p := by
  have hA := nm_stepA h hl
  have a : meas (stepA acc p) ≤ meas acc + p.1.length * (if isOpen p.2 then 1 else 0) := by
    unfold stepA
    split
    · next z =>
      have lt : (timesF (p.1.length / rootN p.1) (0 :: p.2.tail)).length = m + 1 := by unfold timesF; simp [hl]
      have := meas_putP h (u := p.1.take (rootN p.1)) lt (by simp [timesF])
      rw [if_pos z.2]
      rw [List.length_take] at this
      omega
    · omega
  have b : meas (stepB (stepA acc p) p) ≤ meas (stepA acc p) + p.1.length * p.2.headD 0 := by
    unfold stepB
    split
    · have e : p.2.length - 1 = m := by omega
      rw [e, meas_joinF hA.fixOk, pw_len]
      exact Nat.le_refl _
    · omega
  unfold stepN measP
  rw [Nat.mul_add]
  omega
theorem meas_fold {m : Nat} : ∀ (ps acc : List Pn), Nm m acc → LenF m ps → meas (ps.foldl stepN acc) ≤ meas acc + meas ps
  | [], acc, _, _ => by simp [meas]
  | p :: r, acc, h, hl => by
    have lp := hl p List.mem_cons_self
    have a := meas_stepN h lp
    have b := meas_fold r (stepN acc p) (nm_stepB (nm_stepA h lp) lp) fun q hq => hl q (List.mem_cons_of_mem _ hq)
    rw [List.foldl_cons]
    have : meas (p :: r) = measP p + meas r := by simp [meas]
    omega
theorem meas_normL {m : Nat} {ps : List Pn} (h : LenF m ps) : meas (normL ps) ≤ meas ps := by
  have := meas_fold ps [] (Nm.nil (m := m)) h
  unfold normL
  have e : meas [] = 0 := rfl
  omega
/-! ### a normal list stays -/
theorem joinF_app {m : Nat} {acc : List Pn} {w : W} (hw : w ≠ []) (h : ∀ q, acc.getLast? = some q → isPow q = true) : joinF acc w m = acc ++ [fixP w m] := by
  unfold joinF
  split
  · next q hq => rw [if_pos (h q hq), if_neg hw]
  · rw [if_neg hw]
theorem pushP_app {acc : List Pn} {u : W} {f : F} (h : ∀ q, acc.getLast? = some q → ¬ (isPow q = true ∧ q.1 = u)) : pushP acc u f = acc ++ [(u, f)] := by
  unfold pushP
  split
  · next q hq => rw [if_neg (h q hq)]
  · rfl
theorem prim_root {w : W} (h : Prim w) : rootN w = w.length := h.2 _ (rootN_pos h.1) (rootN_dvd w) (rootN_per w)
theorem times_one {f : F} (h : f.headD 0 = 0) (hl : 0 < f.length) : timesF 1 (0 :: f.tail) = f := by
  cases f with
  | nil => simp at hl
  | cons a f =>
    simp only [List.headD_cons] at h
    subst h
    simp [timesF]
theorem step_fix {m : Nat} {l : List Pn} {p : Pn} (h : Nm m l) (hp : NormP m p) (ha : ∀ q, l.getLast? = some q → Adj q p) : stepN l p = l ++ [p] := by
  cases e : isPow p with
  | false =>
    have f1 := hp.fix e
    have ep : fixP p.1 m = p := by unfold fixP; rw [← f1]
    have no : isOpen p.2 = false := by rw [f1, open_one]
    have h1 : p.2.headD 0 = 1 := by rw [f1]; rfl
    have eA : stepA l p = l := by
      unfold stepA
      rw [if_neg fun z => by rw [no] at z; exact Bool.false_ne_true z.2]
    unfold stepN
    rw [eA]
    unfold stepB
    rw [if_pos ⟨hp.ne, by rw [h1]; decide⟩, h1, pw_one, show p.2.length - 1 = m by rw [hp.len]; rfl, joinF_app hp.ne fun q hq => ?_, ep]
    cases y : isPow q with
    | true => rfl
    | false =>
      have := ((ha q hq).fix y).1
      rw [e] at this
      cases this
  | true =>
    obtain ⟨pr, op⟩ := hp.pow e
    have h0 : p.2.headD 0 = 0 := of_decide_eq_true e
    have n0 := List.length_pos_iff.mpr hp.ne
    have eA : stepA l p = putP l p.1 p.2 := by
      unfold stepA
      rw [if_pos ⟨hp.ne, op⟩, prim_root pr, List.take_length, Nat.div_self n0, times_one h0 (by rw [hp.len]; omega)]
    have eB : ∀ acc, stepB acc p = acc := fun acc => by
      unfold stepB
      rw [if_neg fun z => z.2 h0]
    have last : ∀ l : List Pn, (l ++ [p]).getLast? = some p := fun l => by simp
    unfold stepN
    rw [eB, eA]
    unfold putP
    rw [show p.2.length - 1 = m by rw [hp.len]; rfl]
    split
    · next q hq =>
      have a := ha q hq
      split
      · next pq =>
        rw [pushP_app fun q' hq' => by rw [hq] at hq'; cases hq'; exact fun z => a.pow pq e z.2]
        exact joinF_nil (last l) e
      · next pq =>
        have pq' : isPow q = false := by simpa using pq
        have mq := h.all q (List.mem_of_getLast? hq)
        have mz : movedE q.1 p.1 = 0 := moved_zero hp.ne mq.ne (a.fix pq').2
        have el : joinF l.dropLast q.1 m = l := by
          rw [joinF_app mq.ne fun r hr => ?_]
          · have : fixP q.1 m = q := by unfold fixP; rw [← mq.fix pq']
            rw [this]
            exact (last_split hq).symm
          · have b := h.pre hq hr
            cases y : isPow r with
            | true => rfl
            | false =>
              have := (b.fix y).1
              rw [pq'] at this
              cases this
        rw [mz, Nat.sub_zero, List.take_length, List.drop_length, rotR_zero, el, pushP_app fun q' hq' => by rw [hq] at hq'; cases hq'; exact fun z => pq z.1]
        exact joinF_nil (last l) e
    · next hn =>
      rw [pushP_app fun q' hq' => by rw [hn] at hq'; cases hq']
      exact joinF_nil (last l) e
theorem Nm.take {m : Nat} {l : List Pn} (h : Nm m l) (i : Nat) : Nm m (l.take i) := by
  refine ⟨fun p hp => h.all p (List.mem_of_mem_take hp), fun j p q hj hq => ?_⟩
  rw [List.getElem?_take] at hj hq
  split at hq
  · split at hj
    · exact h.adj j p q hj hq
    · cases hj
  · cases hq
theorem normL_take {m : Nat} {ps : List Pn} (h : Nm m ps) : ∀ i, i ≤ ps.length → normL (ps.take i) = ps.take i
  | 0, _ => by simp [normL]
  | i + 1, hi => by
    have hp := List.getElem?_eq_getElem (show i < ps.length by omega)
    generalize ps[i] = p at hp
    have e : ps.take (i + 1) = ps.take i ++ [p] := by rw [List.take_succ, hp]; rfl
    rw [e]
    unfold normL
    rw [List.foldl_append]
    have := normL_take h i (by omega)
    unfold normL at this
    rw [this]
    refine step_fix (h.take i) (h.all p (List.mem_of_getElem? hp)) fun q hq => ?_
    rw [List.getLast?_eq_getElem?, List.length_take, Nat.min_eq_left (by omega)] at hq
    rw [List.getElem?_take] at hq
    split at hq
    · refine h.adj (i - 1) q p hq ?_
      rw [show i - 1 + 1 = i by omega]
      exact hp
    · cases hq
/-- a normal list is its own -/
theorem normL_id {m : Nat} {ps : List Pn} (h : Nm m ps) : normL ps = ps := by
  have := normL_take h ps.length (Nat.le_refl _)
  rw [List.take_length] at this
  exact this
end NM

set_option Elab.async false
set_option linter.all false
set_option maxRecDepth 100000
set_option maxHeartbeats 2000000
namespace K04
open PySem PySem.Spec PyProof.Rows L2 CK SX NM
/-! ### letters -/
def Low (w : List Nat) : Prop := ∀ c ∈ w, 97 ≤ c ∧ c ≤ 122
theorem low_cases {c : Nat} (h : 97 ≤ c ∧ c ≤ 122) : Unicode.isAlpha c = true ∧ Unicode.isLower c = true ∧ (Unicode.isUpper c || Unicode.isTitle c) = false := by
  have : c ∈ List.range' 97 26 := by
    rw [List.mem_range']
    exact ⟨c - 97, by omega, by omega⟩
  have all : (List.range' 97 26).all (fun c => Unicode.isAlpha c && Unicode.isLower c && !(Unicode.isUpper c || Unicode.isTitle c)) = true := by decide +kernel
  have := List.all_eq_true.mp all c this
  simp only [Bool.and_eq_true, Bool.not_eq_true'] at this
  exact ⟨this.1.1, this.1.2, this.2⟩
theorem low_ascii {w : List Nat} (h : Low w) : Txt.isascii (S w) = true := by
  unfold Txt.isascii
  rw [← Array.all_toList, List.all_eq_true]
  exact fun c hc => decide_eq_true (by have := h c hc; omega)
theorem low_alpha {w : List Nat} (h : Low w) (ne : w ≠ []) : Txt.isalpha (S w) = true := by
  unfold Txt.isalpha
  rw [← Array.all_toList, S_len, decide_eq_true (List.length_pos_iff.mpr ne), Bool.true_and, List.all_eq_true]
  exact fun c hc => (low_cases (h c hc)).1
theorem low_lower {w : List Nat} (h : Low w) (ne : w ≠ []) : Txt.islower (S w) = true := by
  unfold Txt.islower
  rw [← Array.any_toList, ← Array.any_toList, Bool.and_eq_true]
  constructor
  · obtain ⟨c, hc⟩ := List.exists_mem_of_ne_nil w ne
    exact List.any_eq_true.mpr ⟨c, hc, (low_cases (h c hc)).2.1⟩
  · rw [Bool.not_eq_true', List.any_eq_false]
    exact fun c hc => by rw [(low_cases (h c hc)).2.2]; exact Bool.false_ne_true
section
variable {P : Program} {w : World} {K : PySem.W.Frag} {mg : Str → Option Value} {base : Heap} {C : Addr}
/-! ### checks -/
def sp_is_whole : Sp := fun vs H Q _ => ∃ v, vs = [v] ∧ Kn H v ∧ Q (.bl (isW v)) H
theorem c_is_whole (T : Txt K mg C) : C8.Cal P w K mg base 1 "is_whole" sp_is_whole [] := by
  refine calF T.d_is_whole sc_is_whole (fun vs H Q E h => ?_) (fun f cdv A outer s H vs Q E hr h => ?_)
  · obtain ⟨v, rfl, _⟩ := h; rfl
  · obtain ⟨v, rfl, k, q⟩ := h
    refine ⟨_, (pss_one (ps_ret (pe_and (pe_callB call_isK (by rfl) T.m_isinstance (by decide +kernel) (pa_cons (pv 0) (pa_cons (pe_bltn (v := .ty "int") (by rfl) T.m_int (by decide +kernel) rfl) pa_nil))) (pe_one (pe_not (pe_callB call_isK (by rfl) T.m_isinstance (by decide +kernel) (pa_cons (pv 0) (pa_cons (pe_bltn (v := .ty "bool") (by rfl) T.m_bool (by decide +kernel) rfl) pa_nil)))))))), ?_⟩
    refine ⟨v, rfl, v, "int", _, rfl, k, kit_int k, _, rfl, ite2 (fun e => ?_) (fun e => ?_)⟩
    · refine ⟨v, rfl, v, "bool", _, rfl, k, kit_bool k, _, rfl, ?_⟩
      rw [show (!isBo v) = isW v by cases v <;> first | rfl | (exact absurd e Bool.false_ne_true)]
      exact q
    · rw [show false = isW v by cases v <;> first | rfl | (exact absurd rfl e)]
      exact q
def sp_is_count : Sp := fun vs H Q _ => ∃ v, vs = [v] ∧ Kn H v ∧ Q (.bl (isC v)) H
theorem c_is_count (T : Txt K mg C) : C8.Cal P w K mg base 2 "is_count" sp_is_count [] := by
  refine calF T.d_is_count sc_is_count (fun vs H Q E h => ?_) (fun f cdv A outer s H vs Q E hr h => ?_)
  · obtain ⟨v, rfl, _⟩ := h; rfl
  · obtain ⟨v, rfl, k, q⟩ := h
    refine ⟨_, (pss_one (ps_ret (pe_and (C8.pe_c (c_is_whole T) hr (by decide) (by rfl) (pa_cons (pv 0) pa_nil)) (pe_one (pe_cmpR op_ge (pv 0) pe_int (nomark _)))))), ?_⟩
    refine ⟨v, rfl, v, rfl, k, _, rfl, ite2 (fun e => ?_) (fun e => ?_)⟩
    · cases v <;> first | (exact absurd e Bool.false_ne_true) | exact ⟨_, rfl, _, 0, rfl, rfl, q⟩
    · rw [show false = isC v by cases v <;> first | rfl | (exact absurd rfl e)]
      exact q
def sp_is_within : Sp := fun vs H Q _ => ∃ i lo hi : Int, vs = [.int i, .int lo, .int hi] ∧ Q (.bl (decide (lo ≤ i) && decide (i ≤ hi))) H
theorem c_is_within (T : Txt K mg C) : C8.Cal P w K mg base 2 "is_within" sp_is_within [] := by
  refine calF T.d_is_within sc_is_within (fun vs H Q E h => ?_) (fun f cdv A outer s H vs Q E hr h => ?_)
  · obtain ⟨i, lo, hi, rfl, _⟩ := h; rfl
  · obtain ⟨i, lo, hi, rfl, q⟩ := h
    refine ⟨_, (pss_one (ps_ret (pe_and (C8.pe_c (c_is_whole T) hr (by decide) (by rfl) (pa_cons (pv 0) pa_nil)) (pe_one (pe_chain op_le op_le (pv 1) (pv 0) (pv 2)))))), ?_⟩
    refine ⟨.int i, rfl, .int i, rfl, .int i, _, rfl, iteT ?_⟩
    refine ⟨_, rfl, _, rfl, lo, i, rfl, rfl, _, rfl, ite2 (fun e => ?_) (fun e => ?_)⟩
    · refine ⟨_, rfl, i, hi, rfl, rfl, ?_⟩
      rw [e, Bool.true_and] at q
      exact q
    · rw [Bool.not_eq_true] at e
      rw [e, Bool.false_and] at q
      exact q
def sp_need_within : Sp := fun vs H Q _ => ∃ i lo hi : Int, vs = [.int i, .int lo, .int hi] ∧ lo ≤ i ∧ i ≤ hi ∧ Q .non H
theorem c_need_within (T : Txt K mg C) : C8.Cal P w K mg base 3 "need_within" sp_need_within [] := by
  refine calF T.d_need_within sc_need_within (fun vs H Q E h => ?_) (fun f cdv A outer s H vs Q E hr h => ?_)
  · obtain ⟨i, lo, hi, rfl, _⟩ := h; rfl
  · obtain ⟨i, lo, hi, rfl, h1, h2, q⟩ := h
    refine ⟨_, (pss_one (ps_if (pt_not (pt_val (C8.pe_c (c_is_within T) hr (by decide) (by rfl) (pa_cons (pv 0) (pa_cons (pv 1) (pa_cons (pv 2) pa_nil))))))
    (pss_one ps_never)
    pss_nil)), ?_⟩
    refine ⟨_, rfl, _, rfl, _, rfl, i, lo, hi, rfl, _, rfl, ?_⟩
    rw [decide_eq_true h1, decide_eq_true h2]
    exact iteF q
theorem len_line {w : List Nat} (h : w.length ≤ 1000000) : (S w).length ≤ sizeLine := by rw [S_len, sizeLine_eq]; omega
def sp_is_lettered : Sp := fun vs H Q _ => ∃ (z : List Nat) (m : Nat), vs = [.str (S z), .int m] ∧ z.length ≤ 1000000 ∧ Low z ∧ Q (.bl (decide (z.length ≤ m))) H
theorem S_nil {z : List Nat} (h : (S z : Str) = "") : z = [] := by
  have := congrArg Str.length h
  rw [S_len] at this
  exact List.length_eq_zero_iff.mp this
theorem c_is_lettered (T : Txt K mg C) : C8.Cal P w K mg base 1 "is_lettered" sp_is_lettered [] := by
  refine calF T.d_is_lettered sc_is_lettered (fun vs H Q E h => ?_) (fun f cdv A outer s H vs Q E hr h => ?_)
  · obtain ⟨_, _, rfl, _⟩ := h; rfl
  · obtain ⟨z, m, rfl, hl, lw, q⟩ := h
    refine ⟨_, (pss_cons (ps_if (PW.pt (pw_or (pt_not (pt_val (pe_callB call_isK (by rfl) T.m_isinstance (by decide +kernel) (pa_cons (pv 0) (pa_cons (pe_bltn (v := .ty "str") (by rfl) T.m_str (by decide +kernel) rfl) pa_nil))))) (pw_or1 (pt_cmpR op_gt (pe_callB call_len_str (by rfl) T.m_len (by decide +kernel) (pa_cons (pv 0) pa_nil)) (pv 1) (nomark _)))))
    (pss_one (ps_ret pe_bl))
    pss_nil)
    (pss_one (ps_ret (pe_or (pe_cmpR op_eq (pv 0) pe_str (nomark _)) (pe_one (pe_and (pe_m0 PySem.F.slot_str_isascii PySem.F.type_str_isascii mt_isascii (pv 0)) (pe_and (pe_m0 PySem.F.slot_str_isalpha PySem.F.type_str_isalpha mt_isalpha (pv 0)) (pe_one (pe_m0 PySem.F.slot_str_islower PySem.F.type_str_islower mt_islower (pv 0)))))))))), ?_⟩
    refine ⟨_, rfl, .str (S z), "str", true, rfl, .str _, by show kitB "str" "str" = some true; decide +kernel, _, rfl, iteF ?_⟩
    refine ⟨_, rfl, S z, rfl, len_line hl, _, rfl, _, m, rfl, rfl, _, rfl, ?_⟩
    rw [S_len]
    by_cases hm : ¬ z.length ≤ m
    · rw [decide_eq_false hm] at q
      rw [decide_eq_true (show (z.length : Int) > m by omega)]
      exact iteT q
    rw [decide_eq_true (show z.length ≤ m by omega)] at q
    rw [decide_eq_false (show ¬ (z.length : Int) > m by omega)]
    refine iteF ⟨_, rfl, rfl, _, rfl, ite2 (fun e => q) fun e => ?_⟩
    have ne : z ≠ [] := fun y => e (by rw [y]; decide +kernel)
    refine ⟨_, rfl, ⟨_, rfl⟩, _, rfl, rfl, trivial, _, rfl, ?_⟩
    rw [low_ascii lw]
    refine iteT ⟨_, rfl, ⟨_, rfl⟩, _, rfl, rfl, trivial, _, rfl, ?_⟩
    rw [low_alpha lw ne]
    refine iteT ⟨_, rfl, ⟨_, rfl⟩, _, rfl, rfl, trivial, ?_⟩
    rw [low_lower lw ne]
    exact q
/-- what is_form_for says of a value -/
def formB (H : Hp) (m : Int) : V → Bool
  | .ref a => match H a with
    | some (.tup xs) => decide ((xs.length : Int) = m + 1) && xs.all isC
    | _ => false
  | _ => false
theorem formB_tup {H : Hp} {m : Int} {a : Addr} {xs : List V} (h : H a = some (.tup xs)) : formB H m (.ref a) = (decide ((xs.length : Int) = m + 1) && xs.all isC) := by simp only [formB, h]
/-- a form in the heap -/
def FT (H : Hp) (a : Addr) (f : F) : Prop := H a = some (.tup (f.map fun n : Nat => V.int (n : Nat)))
theorem FT.same {H H' : Hp} {a : Addr} {f : F} (h : FT H a f) (s : Same H H') : FT H' a f := s _ _ h
theorem formB_FT {H : Hp} {m : Nat} {a : Addr} {f : F} (h : FT H a f) (hl : f.length = m + 1) : formB H m (.ref a) = true := by
  rw [formB_tup h, List.length_map, hl, decide_eq_true (show ((m + 1 : Nat) : Int) = (m : Int) + 1 by omega), Bool.true_and, List.all_map, List.all_eq_true]
  exact fun x hx => decide_eq_true (show (0 : Int) ≤ ((x : Nat) : Int) by omega)
end
end K04

set_option Elab.async false
set_option linter.all false
set_option maxRecDepth 100000
set_option maxHeartbeats 4000000
namespace K04
open PySem PySem.Spec PyProof.Rows L2 CK SX NM
theorem re_st {t : TS} {D : Ends} {σ σ' : L2.St} {H : Hp} (e : σ = σ') (h : t D σ' H) : t D σ H := by
  subst e
  exact h
theorem slice_mid {a : List Nat} {i j : Nat} (h : i ≤ j) (hj : j ≤ a.length) : Txt.slice (S a) (some (i : Int)) (some (j : Int)) = S ((a.drop i).take (j - i)) := by
  have e := beq_iff_eq.mp (slice_closesL (x := S a) (i := (i : Int)) (j := (j : Int)) (by omega) (by omega) (by rw [S_len]; omega))
  refine e.trans (TL.ext_tl ?_)
  show (a.drop (i : Int).toNat).take ((j : Int) - (i : Int)).toNat = (a.drop i).take (j - i)
  congr 1
  omega
theorem lcp_mid {a b : WM.W} {lo mid : Nat} (h1 : lo ≤ WM.lcp a b) (h2 : lo ≤ mid) (ha : mid ≤ a.length) (hb : mid ≤ b.length) :
    (a.drop lo).take (mid - lo) = (b.drop lo).take (mid - lo) ↔ mid ≤ WM.lcp a b := by
  have sp : ∀ z : WM.W, z.take mid = z.take lo ++ (z.drop lo).take (mid - lo) := fun z => by
    have : mid = lo + (mid - lo) := by omega
    conv => lhs; rw [this]
    rw [List.take_add]
  rw [← WM.lcp_iff ha hb, sp a, sp b, WM.lcp_take a b lo h1]
  constructor
  · intro h
    rw [h]
  · intro h
    exact List.append_cancel_left h
section
variable {X : Cx}
/-- s * n, up to a million letters -/
theorem op_repM : OpR X (binaryOp .Mult) (fun x y H Q => ∃ (z : List Nat) (n : Nat), x = .str (S z) ∧ y = .int n ∧ n ≤ 1000000 ∧ z.length ≤ 1000000 ∧ n * z.length ≤ 1000000 ∧ Q (.str (S (List.replicate n z).flatten)) H) := by
  intro pins s σ H x y v u Q I rx ry h
  obtain ⟨z, n, rfl, rfl, hn, hz, hm, q⟩ := h
  obtain ⟨t, rfl⟩ := rx
  obtain ⟨t', rfl⟩ := ry
  have hl : (List.replicate n z).flatten.length = n * z.length := by simp
  refine P.mul_str (by simp; omega) (fun h1 h2 => ?_) (fun h1 h2 => ?_) ?_
  · rw [S_len]
    have hn0 : (0 : Int) < n := by omega
    have h3 : (1000000 : Int) ≤ (2 ^ 63 - 1) / (n : Int) := by
      refine (Int.le_ediv_iff_mul_le hn0).mpr ?_
      have : (1000000 : Int) * n ≤ 1000000 * 1000000 := Int.mul_le_mul_of_nonneg_left (by omega) (by decide)
      omega
    omega
  · rw [S_len, Int.toNat_natCast, Nat.mul_comm]
    have : n * z.length ≤ sizeLine := by rw [sizeLine_eq]; omega
    unfold Builtin.Str.tooLong
    simp
    omega
  · by_cases h1 : (n : Int) < 1
    · rw [if_pos h1]
      have e : n = 0 := by omega
      subst e
      exact ⟨by decide, .str _, H, I.tok _, ⟨_, rfl⟩, q⟩
    · rw [if_neg h1]
      by_cases h2 : ((n : Int) == 1 || (S z).length == 0) = true
      · rw [if_pos h2]
        have e : (List.replicate n z).flatten = z := by
          rw [Bool.or_eq_true, beq_iff_eq, beq_iff_eq, S_len] at h2
          rcases h2 with h2 | h2
          · have : n = 1 := by omega
            subst this
            simp
          · rw [List.length_eq_zero_iff.mp h2]
            simp
        rw [e] at q
        exact ⟨.str _, H, I, ⟨_, rfl⟩, q⟩
      · rw [if_neg h2]
        have e : (⟨(List.replicate (n : Int).toNat (S z).cps).foldl (· ++ ·) #[]⟩ : Str) = S (List.replicate n z).flatten := by
          refine TL.ext_tl ?_
          show ((List.replicate (n : Int).toNat (S z).cps).foldl (· ++ ·) #[]).toList = _
          rw [Int.toNat_natCast, foldl_arr]
          rfl
        rw [e]
        exact ⟨by rw [S_len, hl, sizeLine_eq]; omega, .str _, H, I.tok _, ⟨_, rfl⟩, q⟩
end
section
variable {P : Program} {w : World} {K : PySem.W.Frag} {mg : Str → Option Value} {base : Heap} {C : Addr}
/-! ### words -/
theorem fmodZ (i : Int) {n : Nat} (h : n ≠ 0) : ∃ k : Nat, i.fmod (n : Int) = k ∧ k < n := by
  have h0 : 0 ≤ i.fmod (n : Int) := Int.fmod_nonneg_of_pos i (by omega)
  have h1 : i.fmod (n : Int) < n := Int.fmod_lt_of_pos i (by omega)
  exact ⟨(i.fmod n).toNat, by omega, by omega⟩
def rotZ (z : List Nat) (i : Int) : List Nat := z.drop (i.fmod (z.length : Int)).toNat ++ z.take (i.fmod (z.length : Int)).toNat
theorem fmod_neg (k : Nat) {n : Nat} (h : 0 < n) : (-(k : Int)).fmod (n : Int) = (((n - k % n) % n : Nat) : Int) := by
  have hm := Nat.mod_lt k h
  have hd := Nat.mod_add_div k n
  rw [Int.fmod_eq_emod_of_nonneg _ (by omega)]
  have e : (-(k : Int)) = ((n - k % n : Nat) : Int) + (n : Int) * (-((k / n : Nat) : Int) - 1) := by
    have : ((n - k % n : Nat) : Int) = (n : Int) - ((k % n : Nat) : Int) := by omega
    rw [this]
    have h2 : (k : Int) = ((k % n : Nat) : Int) + (n : Int) * ((k / n : Nat) : Int) := by
      have := congrArg (fun z : Nat => (z : Int)) hd
      simp only [Int.natCast_add, Int.natCast_mul] at this
      exact this.symm
    rw [Int.mul_sub, Int.mul_neg, Int.mul_one]
    omega
  rw [e, Int.add_mul_emod_self_left]
  rfl
theorem rotZ_neg {z : List Nat} (h : z ≠ []) (k : Nat) : rotZ z (-(k : Int)) = rotR z k := by
  have n0 := List.length_pos_iff.mpr h
  unfold rotZ rotR
  rw [fmod_neg k n0, Int.toNat_natCast]
  by_cases e : k % z.length = 0
  · rw [e, Nat.sub_zero, Nat.mod_self]
    simp
  · have hm := Nat.mod_lt k n0
    rw [Nat.mod_eq_of_lt (show z.length - k % z.length < z.length by omega)]
theorem stretch_tail {u : List Nat} (h : u ≠ []) (n k : Nat) (hk : (u.length - n % u.length) % u.length + n ≤ u.length * k) :
    ((List.replicate k u).flatten.drop ((u.length - n % u.length) % u.length)).take n = tailE u n := by
  have n0 := List.length_pos_iff.mpr h
  have l : (List.replicate k u).flatten.length = u.length * k := WM.pw_len u k
  refine List.ext_getElem? fun i => ?_
  by_cases hi : i < n
  · rw [List.getElem?_take_of_lt hi, List.getElem?_drop, tailE_get h hi]
    have := WM.pw_get h k ((u.length - n % u.length) % u.length + i) (by omega)
    unfold WM.pw at this
    rw [this]
    congr 1
    rw [Nat.mod_add_mod, Nat.add_comm]
  · rw [List.getElem?_eq_none (by rw [List.length_take]; omega), List.getElem?_eq_none (by rw [tailE_len h]; omega)]
def sp_stretch : Sp := fun vs H Q _ => ∃ (u : List Nat) (n : Nat), vs = [.str (S u), .int (-(n : Int)), .int n] ∧ u ≠ [] ∧ u.length ≤ 100000 ∧ n ≤ 100000 ∧ Q (.str (S (tailE u n))) H
theorem c_stretch (T : Txt K mg C) : C8.Cal P w K mg base 1 "stretch" sp_stretch [] := by
  refine calF T.d_stretch sc_stretch (fun vs H Q E h => ?_) (fun f cdv A outer s H vs Q E hr h => ?_)
  · obtain ⟨_, _, rfl, _⟩ := h; rfl
  · obtain ⟨u, n, rfl, ne, hu, hn, q⟩ := h
    have n0 := List.length_pos_iff.mpr ne
    refine ⟨_, (pss_cons (ps_set (i := 3) sc_stretch.nd rfl (Or.inl rfl) (pe_op op_modN (pv 1) (pe_callB call_len_str (by rfl) T.m_len (by decide +kernel) (pa_cons (pv 0) pa_nil))))
    (pss_one (ps_ret (pe_slice C8.sl_txt (pe_op op_repM (pv 0) (pe_op op_add (pe_op op_fdivZ (pe_op op_add (pv 3) (pv 2)) (pe_callB call_len_str (by rfl) T.m_len (by decide +kernel) (pa_cons (pv 0) pa_nil))) pe_int)) (po_some (pv 3)) (po_some (pe_op op_add (pv 3) (pv 2))))))), ?_⟩
    have hm := fmod_neg n n0
    generalize ha : (u.length - n % u.length) % u.length = a at hm
    have alt : a < u.length := by rw [← ha]; exact Nat.mod_lt _ n0
    refine ⟨_, rfl, _, rfl, S u, rfl, len_line (by omega), -(n : Int), u.length, rfl, congrArg (fun n : Nat => V.int n) (S_len u), by omega, ?_⟩
    have hdm := Nat.div_add_mod (a + n) u.length
    have hml := Nat.mod_lt (a + n) n0
    have dl : (a + n) / u.length ≤ a + n := Nat.div_le_self _ _
    refine ⟨_, rfl, _, rfl, _, rfl, a, n, congrArg V.int hm, rfl, _, rfl, S u, rfl, len_line (by omega), a + n, u.length, congrArg V.int (by omega), congrArg (fun n : Nat => V.int n) (S_len u), by omega, by omega, _, _, rfl, rfl, u, (a + n) / u.length + 1, rfl, congrArg V.int (by omega), by omega, by omega, ?_, ?_⟩
    · rw [Nat.add_mul, Nat.one_mul, Nat.mul_comm]
      omega
    · have l : (List.replicate ((a + n) / u.length + 1) u).flatten.length = u.length * ((a + n) / u.length + 1) := WM.pw_len u _
      have hle : a + n ≤ u.length * ((a + n) / u.length + 1) := by rw [Nat.mul_succ]; omega
      refine ⟨_, rfl, a, congrArg V.int hm, _, rfl, _, rfl, a, n, congrArg V.int hm, rfl, ((a + n : Nat) : Int), congrArg V.int (by omega), S _, rfl, ?_, ?_⟩
      · rw [S_len, l, Nat.mul_succ, sizeLine_eq]
        omega
      · rw [slice_mid (by omega) (by rw [l]; exact hle), show a + n - a = n by omega, ← ha, stretch_tail ne n _ (by rw [ha]; exact hle)]
        exact q
def sp_alike : Sp := fun vs H Q _ => ∃ (a b : List Nat), vs = [.str (S a), .str (S b)] ∧ a.length ≤ 1000000 ∧ b.length ≤ 1000000 ∧ Q (.int (WM.lcp a b : Nat)) H
theorem c_alike_ahead (T : Txt K mg C) : C8.Cal P w K mg base 1 "alike_ahead" sp_alike [] := by
  refine calF T.d_alike_ahead sc_alike_ahead (fun vs H Q E h => ?_) (fun f cdv A outer s H vs Q E hr h => ?_)
  · obtain ⟨_, _, rfl, _⟩ := h; rfl
  · obtain ⟨a, b, rfl, ha, hb, q⟩ := h
    refine ⟨_, (pss_cons (ps_par (i := 2) (j := 3) (by rfl) sc_alike_ahead.nd rfl rfl (by decide) rfl rfl (pa_cons pe_int (pa_cons (pe_callB (call_min2 rfl) (by rfl) T.m_min (by decide +kernel) (pa_cons (pe_callB call_len_str (by rfl) T.m_len (by decide +kernel) (pa_cons (pv 0) pa_nil)) (pa_cons (pe_callB call_len_str (by rfl) T.m_len (by decide +kernel) (pa_cons (pv 1) pa_nil)) pa_nil))) pa_nil)) (by rfl))
    (pss_cons (ps_if (pt_cmpR op_eq (pe_slice C8.sl_txt (pv 0) po_none (po_some (pv 3))) (pe_slice C8.sl_txt (pv 1) po_none (po_some (pv 3))) (nomark _))
    (pss_one (ps_ret (pv 3)))
    pss_nil)
    (pss_cons (ps_while PassesOwn.never (pt_cmpR op_gt (pe_op op_sub (pv 3) (pv 2)) pe_int (nomark _))
    (pss_cons (ps_set (i := 4) sc_alike_ahead.nd rfl (Or.inl rfl) (pe_op op_fdivZ (pe_op op_add (pv 2) (pv 3)) pe_int))
    (pss_one (ps_if (pt_cmpR op_eq (pe_slice C8.sl_txt (pv 0) (po_some (pv 2)) (po_some (pv 4))) (pe_slice C8.sl_txt (pv 1) (po_some (pv 2)) (po_some (pv 4))) (nomark _))
    (pss_one (ps_set (i := 2) sc_alike_ahead.nd rfl (Or.inl rfl) (pv 4)))
    (pss_one (ps_set (i := 3) sc_alike_ahead.nd rfl (Or.inl rfl) (pv 4)))))))
    (pss_one (ps_ret (pv 2)))))), ?_⟩
    have lle := WM.lcp_le a b
    obtain ⟨m, hma, hmb, hm, hmm⟩ : ∃ m : Nat, m ≤ a.length ∧ m ≤ b.length ∧ (if (((S b).length : Nat) : Int) < (((S a).length : Nat) : Int) then (((S b).length : Nat) : Int) else (((S a).length : Nat) : Int)) = m ∧ (a.length ≤ m ∨ b.length ≤ m) := by
      rw [S_len, S_len]
      by_cases z : (b.length : Int) < a.length
      · exact ⟨b.length, by omega, by omega, if_pos z, .inr (Nat.le_refl _)⟩
      · exact ⟨a.length, by omega, by omega, if_neg z, .inl (Nat.le_refl _)⟩
    refine ⟨_, rfl, S a, rfl, len_line ha, _, rfl, S b, rfl, len_line hb, _, _, rfl, .int 0, .int m, congrArg (fun z => [V.int 0, V.int z]) hm, ?_⟩
    refine ⟨_, rfl, _, rfl, m, rfl, S a, rfl, len_line ha, _, rfl, _, rfl, m, rfl, S b, rfl, len_line hb, rfl, _, rfl, ?_⟩
    rw [SX.slice_to (by omega), SX.slice_to (by omega), Int.toNat_natCast]
    refine ite2 (fun e => ?_) (fun e => ?_)
    · have e' := S_inj (V.str.inj (of_decide_eq_true e))
      have := WM.le_lcp a b m hma hmb e'
      refine ⟨_, rfl, ?_⟩
      rw [show m = WM.lcp a b by omega]
      exact q
    · have e' : WM.lcp a b < m := by
        by_cases z : WM.lcp a b < m
        · exact z
        · exact absurd (decide_eq_true (congrArg (fun l => V.str (S l)) (WM.lcp_take a b m (by omega)))) e
      refine while_by (fun σ H' => H' = H ∧ ∃ (lo hi : Nat) (zl zh : Int) (y : Option V), σ = [some (.str (S a)), some (.str (S b)), some (.int zl), some (.int zh), y] ∧ zl = lo ∧ zh = hi ∧ lo ≤ WM.lcp a b ∧ WM.lcp a b < hi ∧ hi ≤ m)
        (fun σ _ => match σ with | [_, _, some (.int zl), some (.int zh), _] => (zh - zl).toNat | _ => 0) ?_ (fun σ H' p => ?_) ?_
      · exact ⟨rfl, 0, m, _, _, none, rfl, rfl, rfl, Nat.zero_le _, e', Nat.le_refl _⟩
      · obtain ⟨rfl, lo, hi, zl, zh, y, rfl, rfl, rfl, h1, h2, h3⟩ := p
        refine ⟨_, rfl, _, rfl, _, _, rfl, rfl, _, _, rfl, rfl, _, rfl, ite2 (fun c => ?_) (fun c => ?_)⟩
        · have c' : lo + 1 < hi := by
            have := of_decide_eq_true c
            omega
          refine ⟨_, rfl, _, rfl, _, _, rfl, rfl, lo + hi, 2, congrArg V.int (by omega), rfl, by decide, by decide, ?_⟩
          have m1 : lo < (lo + hi) / 2 := by omega
          have m2 : (lo + hi) / 2 < hi := by omega
          generalize (lo + hi) / 2 = md at m1 m2
          refine ⟨_, rfl, _, rfl, lo, rfl, _, rfl, md, rfl, S a, rfl, len_line ha, _, rfl, _, rfl, lo, rfl, _, rfl, md, rfl, S b, rfl, len_line hb, rfl, _, rfl, ?_⟩
          rw [slice_mid (by omega) (by omega), slice_mid (by omega) (by omega)]
          have iff := lcp_mid (a := a) (b := b) (lo := lo) (mid := md) h1 (by omega) (by omega) (by omega)
          refine ite2 (fun d => ?_) (fun d => ?_)
          · have d' := iff.mp (S_inj (V.str.inj (of_decide_eq_true d)))
            refine ⟨_, rfl, ⟨rfl, md, hi, _, _, _, rfl, rfl, rfl, d', h2, h3⟩, ?_⟩
            show ((hi : Int) - ((md : Nat) : Int)).toNat < ((hi : Int) - (lo : Int)).toNat
            omega
          · have d' : WM.lcp a b < md := by
              by_cases z : WM.lcp a b < md
              · exact z
              · exact absurd (decide_eq_true (congrArg (fun l => V.str (S l)) (iff.mpr (by omega)))) d
            refine ⟨_, rfl, ⟨rfl, lo, md, _, _, _, rfl, rfl, rfl, h1, d', by omega⟩, ?_⟩
            show (((md : Nat) : Int) - (lo : Int)).toNat < ((hi : Int) - (lo : Int)).toNat
            omega
        · have c' : lo = WM.lcp a b := by
            have : ¬ ((hi : Int) - lo > 1) := fun z => c (decide_eq_true z)
            omega
          subst c'
          exact ⟨_, rfl, q⟩
      · intro σ H' Q1 Q2 hq h
        obtain ⟨a1, h1, a2, h2, a3, a4, h3, h4, a5, a6, h5, h6, k, h7, h⟩ := h
        exact ⟨a1, h1, a2, h2, a3, a4, h3, h4, a5, a6, h5, h6, k, h7, hq _ _ h⟩
end
end K04

set_option linter.all false
/-! kept words: lists of pieces (word, number), what they write, their tidy form, their parts (no Python here) -/
namespace KM
open WM
abbrev Pc := List Nat × Nat
def wr : List Pc → List Nat
  | [] => []
  | p :: r => pw p.1 p.2 ++ wr r
def plen (p : Pc) : Nat := p.1.length * p.2
def long (ps : List Pc) : Nat := (ps.map plen).sum
theorem wr_len : ∀ ps, (wr ps).length = long ps
  | [] => rfl
  | p :: r => by
    rw [wr, List.length_append, pw_len, wr_len r]
    simp [long, plen]
theorem wr_app : ∀ a b, wr (a ++ b) = wr a ++ wr b
  | [], b => rfl
  | p :: r, b => by rw [List.cons_append, wr, wr, wr_app r b, List.append_assoc]
theorem pw_nil (n : Nat) : pw [] n = [] := List.length_eq_zero_iff.mp (by rw [pw_len]; simp)
/-! ### tidy lists -/
def stepT (acc : List Pc) (p : Pc) : List Pc :=
  if p.1 = [] ∨ p.2 = 0 then acc
  else match acc.getLast? with
    | some q => if q.1 = p.1 then acc.dropLast ++ [(p.1, p.2 + q.2)] else acc ++ [p]
    | none => acc ++ [p]
def tidy (ps : List Pc) : List Pc := ps.foldl stepT []
theorem last_split {α : Type} {l : List α} {q : α} (h : l.getLast? = some q) : l = l.dropLast ++ [q] := by
  obtain ⟨ne, e⟩ := List.getLast?_eq_some_iff.mp h
  subst e
  simp
theorem wr_stepT (acc : List Pc) (p : Pc) : wr (stepT acc p) = wr acc ++ pw p.1 p.2 := by
  unfold stepT
  split
  · next h =>
    rcases h with h | h
    · rw [h, pw_nil, List.append_nil]
    · rw [h, pw_zero, List.append_nil]
  · split
    · next q hq =>
      split
      · next e =>
        have s := last_split hq
        have : wr acc = wr acc.dropLast ++ pw q.1 q.2 := by
          conv => lhs; rw [s]
          rw [wr_app]
          simp [wr]
        rw [this, wr_app, wr, wr, List.append_nil, List.append_assoc, ← e, Nat.add_comm, pw_add]
      · rw [wr_app, wr, wr, List.append_nil]
    · rw [wr_app, wr, wr, List.append_nil]
theorem wr_foldT : ∀ (ps acc : List Pc), wr (ps.foldl stepT acc) = wr acc ++ wr ps
  | [], acc => by simp [wr]
  | p :: r, acc => by rw [List.foldl_cons, wr_foldT r, wr_stepT, wr, List.append_assoc]
theorem wr_tidy (ps : List Pc) : wr (tidy ps) = wr ps := wr_foldT ps []
/-- neighbours differ, nothing empty -/
inductive Ty : List Pc → Prop
  | nil : Ty []
  | one {p : Pc} : p.1 ≠ [] → p.2 ≠ 0 → Ty [p]
  | snoc {l : List Pc} {q p : Pc} : Ty (l ++ [q]) → p.1 ≠ [] → p.2 ≠ 0 → q.1 ≠ p.1 → Ty (l ++ [q] ++ [p])
theorem Ty.init {l : List Pc} {p : Pc} (h : Ty (l ++ [p])) : Ty l := by
  generalize e : l ++ [p] = m at h
  cases h with
  | nil => simp at e
  | one a b =>
    have : l = [] := by
      have := congrArg List.length e
      simp at this
      exact this
    subst this
    exact .nil
  | snoc a b c d =>
    have := (List.append_inj' e rfl).1
    subst this
    exact a
theorem Ty.last {l : List Pc} {p : Pc} (h : Ty (l ++ [p])) : p.1 ≠ [] ∧ p.2 ≠ 0 := by
  generalize e : l ++ [p] = m at h
  cases h with
  | nil => simp at e
  | one a b =>
    rename_i q
    have : p = q := by
      cases l with
      | nil => simpa using e
      | cons x r =>
        have := congrArg List.length e
        simp at this
    subst this
    exact ⟨a, b⟩
  | snoc a b c d =>
    have := (List.append_inj' e rfl).2
    simp at this
    subst this
    exact ⟨b, c⟩
theorem Ty.step {acc : List Pc} (h : Ty acc) (p : Pc) : Ty (stepT acc p) := by
  unfold stepT
  split
  · exact h
  · next hp =>
    have hp' : p.1 ≠ [] ∧ p.2 ≠ 0 := ⟨fun z => hp (.inl z), fun z => hp (.inr z)⟩
    split
    · next q hq =>
      have s := last_split hq
      rw [s] at h
      split
      · next e =>
        generalize acc.dropLast = l at h
        generalize em : l ++ [q] = m at h
        cases h with
        | nil => simp at em
        | one a b =>
          have : l = [] := by
            have := congrArg List.length em
            simp at this
            exact this
          subst this
          exact .one hp'.1 (by show p.2 + q.2 ≠ 0; omega)
        | snoc a b c d =>
          rename_i l' q' p'
          have e1 := (List.append_inj' em rfl).1
          have e2 := (List.append_inj' em rfl).2
          simp at e2
          subst e1 e2
          exact .snoc a hp'.1 (by show p.2 + q.2 ≠ 0; omega) (by show q'.1 ≠ p.1; rw [← e]; exact d)
      · next e =>
        have : acc ++ [p] = acc.dropLast ++ [q] ++ [p] := by rw [← s]
        rw [this]
        exact .snoc h hp'.1 hp'.2 e
    · next hq =>
      have : acc = [] := List.getLast?_eq_none_iff.mp hq
      subst this
      exact .one hp'.1 hp'.2
theorem Ty.fold : ∀ (ps : List Pc) {acc : List Pc}, Ty acc → Ty (ps.foldl stepT acc)
  | [], _, h => h
  | p :: r, _, h => Ty.fold r (h.step p)
theorem ty_tidy (ps : List Pc) : Ty (tidy ps) := Ty.fold ps .nil
theorem tidy_snoc (ps : List Pc) (p : Pc) : tidy (ps ++ [p]) = stepT (tidy ps) p := by simp [tidy, List.foldl_append]
theorem tidy_id {ps : List Pc} (h : Ty ps) : tidy ps = ps := by
  induction h with
  | nil => rfl
  | one a b => simp [tidy, stepT, a, b]
  | snoc h a b c ih =>
    rw [tidy_snoc, ih]
    unfold stepT
    rw [if_neg (by simp [a, b])]
    simp [c]
theorem Ty.all {ps : List Pc} (h : Ty ps) : ∀ p ∈ ps, p.1 ≠ [] ∧ p.2 ≠ 0 := by
  induction h with
  | nil => simp
  | one a b => simp; exact ⟨a, b⟩
  | snoc h a b c ih =>
    intro p hp
    rcases List.mem_append.mp hp with z | z
    · exact ih p z
    · rw [List.mem_singleton.mp z]
      exact ⟨a, b⟩
/-! ### the opposite order -/
def mir (ps : List Pc) : List Pc := ps.reverse.map fun p => (p.1.reverse, p.2)
theorem pw_rev (w : List Nat) : ∀ n, pw w.reverse n = (pw w n).reverse
  | 0 => rfl
  | n + 1 => by
    have : pw w (n + 1) = pw w n ++ w := by rw [pw_add]; simp [pw]
    rw [this, pw_succ, pw_rev w n, List.reverse_append]
theorem wr_mir : ∀ ps, wr (mir ps) = (wr ps).reverse
  | [] => rfl
  | p :: r => by
    have : mir (p :: r) = mir r ++ [(p.1.reverse, p.2)] := by simp [mir]
    rw [this, wr_app, wr_mir r, wr, wr, wr, List.append_nil, pw_rev, List.reverse_append]
/-- the same, from the other side -/
theorem Ty.cons {l : List Pc} {p q : Pc} (h : Ty (q :: l)) (a : p.1 ≠ []) (b : p.2 ≠ 0) (c : p.1 ≠ q.1) : Ty (p :: q :: l) := by
  generalize e : q :: l = m at h
  induction h generalizing q l with
  | nil => cases e
  | one a1 b1 =>
    cases e
    exact .snoc (l := []) (.one a b) a1 b1 c
  | snoc h a1 b1 c1 ih =>
    rename_i l' q' p'
    cases l' with
    | nil =>
      cases e
      exact .snoc (l := [p]) (.snoc (l := []) (.one a b) h.last.1 h.last.2 c) a1 b1 c1
    | cons x r =>
      cases e
      have := ih c rfl
      exact .snoc (l := p :: q :: r) this a1 b1 c1
theorem ty_mir {ps : List Pc} (h : Ty ps) : Ty (mir ps) := by
  induction h with
  | nil => exact .nil
  | one a b => exact .one (by simpa using a) b
  | snoc h a b c ih =>
    rename_i l q p
    have e : mir (l ++ [q] ++ [p]) = (p.1.reverse, p.2) :: (q.1.reverse, q.2) :: mir l := by simp [mir]
    have e2 : mir (l ++ [q]) = (q.1.reverse, q.2) :: mir l := by simp [mir]
    rw [e]
    rw [e2] at ih
    exact ih.cons (by simpa using a) b (by intro z; exact c (List.reverse_inj.mp z).symm)
/-! ### ends and letters -/
def endsF (s : Nat) : List Pc → List Nat
  | [] => []
  | p :: r => (s + plen p) :: endsF (s + plen p) r
theorem endsF_len : ∀ (ps : List Pc) (s : Nat), (endsF s ps).length = ps.length
  | [], _ => rfl
  | p :: r, s => by simp [endsF, endsF_len r]
theorem endsF_app : ∀ (a b : List Pc) (s : Nat), endsF s (a ++ b) = endsF s a ++ endsF (s + long a) b
  | [], b, s => by simp [endsF, long]
  | p :: r, b, s => by
    rw [List.cons_append, endsF, endsF, endsF_app r b, List.cons_append]
    simp [long, Nat.add_assoc]
/-- the law's way to a letter -/
def let1 : List Pc → Nat → Option Nat
  | [], _ => none
  | p :: r, i => if i < plen p then p.1[i % p.1.length]? else let1 r (i - plen p)
theorem let1_eq : ∀ (ps : List Pc) (i : Nat), let1 ps i = (wr ps)[i]?
  | [], i => by simp [let1, wr]
  | p :: r, i => by
    have pl : (pw p.1 p.2).length = plen p := pw_len _ _
    rw [let1, wr]
    split
    · next h =>
      have ne : p.1 ≠ [] := fun z => by simp [plen, z] at h
      rw [List.getElem?_append_left (by omega), pw_get ne _ _ h]
    · next h => rw [List.getElem?_append_right (by omega), let1_eq r, pl]
/-- a letter by the piece it lies in -/
theorem let_at {ps : List Pc} {k s e i : Nat} {p : Pc} (hp : ps[k]? = some p) (he : (endsF 0 ps)[k]? = some e) (h1 : i < e) (h0 : e - plen p ≤ i) (hle : plen p ≤ e) : (wr ps)[i]? = p.1[(i - (e - plen p)) % p.1.length]? ∧ p.1 ≠ [] := by
  have hk := (List.getElem?_eq_some_iff.mp hp).1
  have s1 : ps = ps.take k ++ (p :: ps.drop (k + 1)) := by
    have := List.getElem_cons_drop hk
    have e2 := (List.getElem?_eq_some_iff.mp hp).2
    rw [e2] at this
    rw [this, List.take_append_drop]
  have l1 : (ps.take k).length = k := by rw [List.length_take]; omega
  have ee : e = long (ps.take k) + plen p := by
    rw [s1, endsF_app, List.getElem?_append_right (by rw [endsF_len, l1]; exact Nat.le_refl _), endsF_len, l1, Nat.sub_self] at he
    simp [endsF] at he
    omega
  have ne : p.1 ≠ [] := fun z => by simp [plen, z] at h0 ee; omega
  refine ⟨?_, ne⟩
  rw [s1, wr_app, wr, List.getElem?_append_right (by rw [wr_len]; omega), wr_len, List.getElem?_append_left (by rw [pw_len]; show _ < plen p; omega), pw_get ne _ _ (by show _ < plen p; omega)]
  congr 2
  omega
/-! ### parts -/
def rot (w : List Nat) (k : Nat) : List Nat := w.drop k ++ w.take k
theorem rot_len (w : List Nat) (k : Nat) : (rot w k).length = w.length := by
  simp [rot]
  omega
theorem rot_get {w : List Nat} {k j : Nat} (hk : k < w.length) (hj : j < w.length) : (rot w k)[j]? = w[(k + j) % w.length]? := by
  unfold rot
  by_cases h : j < w.length - k
  · rw [List.getElem?_append_left (by simp; omega), List.getElem?_drop, Nat.mod_eq_of_lt (by omega)]
  · rw [List.getElem?_append_right (by simp; omega), List.length_drop, List.getElem?_take_of_lt (by omega), Nat.mod_eq_sub_mod (by omega), Nat.mod_eq_of_lt (by omega)]
    congr 1
    omega
def two (w : List Nat) (a b : Nat) : List Pc := [(rot w (a % w.length), (b - a) / w.length), ((rot w (a % w.length)).take ((b - a) % w.length), 1)]
theorem two_get {w : List Nat} (ne : w ≠ []) (a b : Nat) (j : Nat) (hj : j < b - a) : (wr (two w a b))[j]? = w[(a + j) % w.length]? := by
  have n0 := List.length_pos_iff.mpr ne
  have ha := Nat.mod_lt a n0
  have rl := rot_len w (a % w.length)
  have rne : rot w (a % w.length) ≠ [] := fun z => by rw [z] at rl; simp at rl; omega
  have e : wr (two w a b) = pw (rot w (a % w.length)) ((b - a) / w.length) ++ (rot w (a % w.length)).take ((b - a) % w.length) := by
    simp [two, wr, pw]
  have hd := Nat.div_add_mod (b - a) w.length
  have pl := pw_len (rot w (a % w.length)) ((b - a) / w.length)
  rw [rl] at pl
  rw [e]
  have key : ∀ i, (rot w (a % w.length))[i % w.length]? = w[(a + i) % w.length]? := fun i => by
    rw [rot_get ha (Nat.mod_lt i n0), ← Nat.add_mod]
  by_cases h : j < w.length * ((b - a) / w.length)
  · rw [List.getElem?_append_left (by omega), pw_get rne _ _ (by rw [rl]; exact h), rl, key]
  · rw [List.getElem?_append_right (by omega), pl, List.getElem?_take_of_lt (by omega)]
    have h2 : j - w.length * ((b - a) / w.length) < w.length := by
      have := Nat.mod_lt (b - a) n0
      omega
    have := key j
    rw [← this]
    congr 1
    have : j % w.length = (j - w.length * ((b - a) / w.length)) % w.length := (Nat.sub_mul_mod (by omega)).symm
    rw [this, Nat.mod_eq_of_lt h2]
theorem two_len {w : List Nat} (ne : w ≠ []) (a b : Nat) : (wr (two w a b)).length = b - a := by
  have n0 := List.length_pos_iff.mpr ne
  have rl := rot_len w (a % w.length)
  have hd := Nat.div_add_mod (b - a) w.length
  have := Nat.mod_lt (b - a) n0
  simp [two, wr_len, long, plen, rl]
  omega
def cut1 (lo hi s : Nat) (p : Pc) : List Pc := if s < hi ∧ lo < s + plen p then two p.1 (lo - s) (min hi (s + plen p) - s) else []
def cutF (lo hi : Nat) (s : Nat) : List Pc → List Pc
  | [] => []
  | p :: r => cut1 lo hi s p ++ cutF lo hi (s + plen p) r
theorem wr_cut1 {lo hi s : Nat} {p : Pc} (ne : p.1 ≠ []) : wr (cut1 lo hi s p) = ((pw p.1 p.2).take (hi - s)).drop (lo - s) := by
  have pl : (pw p.1 p.2).length = plen p := pw_len _ _
  unfold cut1
  split
  · next h =>
    have e0 : min hi (s + plen p) - s = min (hi - s) (plen p) := by omega
    rw [e0]
    have l1 := two_len ne (lo - s) (min (hi - s) (plen p))
    have l2 : (((pw p.1 p.2).take (hi - s)).drop (lo - s)).length = min (hi - s) (plen p) - (lo - s) := by simp [pl]
    refine List.ext_getElem? fun j => ?_
    by_cases hj : j < min (hi - s) (plen p) - (lo - s)
    · rw [two_get ne _ _ _ hj, List.getElem?_drop, List.getElem?_take_of_lt (by omega), pw_get ne _ _ (by show _ < plen p; omega)]
    · rw [List.getElem?_eq_none (by omega), List.getElem?_eq_none (by omega)]
  · next h =>
    symm
    refine List.drop_eq_nil_of_le ?_
    rw [List.length_take, pl]
    omega
theorem wr_cutF {lo hi : Nat} : ∀ (ps : List Pc) (s : Nat), (∀ p ∈ ps, p.1 ≠ []) → wr (cutF lo hi s ps) = ((wr ps).take (hi - s)).drop (lo - s)
  | [], s, _ => by simp [cutF, wr]
  | p :: r, s, h => by
    have pl : (pw p.1 p.2).length = plen p := pw_len _ _
    rw [cutF, wr_app, wr_cut1 (h p List.mem_cons_self), wr_cutF r _ (fun q hq => h q (List.mem_cons_of_mem _ hq)), wr, List.take_append, List.drop_append, pl, List.length_take, pl,
      show hi - (s + plen p) = hi - s - plen p by omega]
    congr 1
    by_cases z : hi - s ≤ plen p
    · rw [show hi - s - plen p = 0 by omega]
      simp
    · congr 1
      omega
def part (ps : List Pc) (lo hi : Nat) : List Pc := tidy (cutF lo hi 0 ps)
theorem wr_part {ps : List Pc} {lo hi : Nat} (h : ∀ p ∈ ps, p.1 ≠ []) : wr (part ps lo hi) = ((wr ps).take hi).drop lo := by
  unfold part
  rw [wr_tidy, wr_cutF ps 0 h, Nat.sub_zero, Nat.sub_zero]
theorem part_len {ps : List Pc} {lo hi : Nat} (h : ∀ p ∈ ps, p.1 ≠ []) (hh : hi ≤ long ps) : long (part ps lo hi) = hi - lo := by
  rw [← wr_len, wr_part h, List.length_drop, List.length_take, wr_len]
  omega
theorem part_get {ps : List Pc} {lo hi i : Nat} (h : ∀ p ∈ ps, p.1 ≠ []) (hi' : i < hi - lo) : (wr (part ps lo hi))[i]? = (wr ps)[lo + i]? := by
  rw [wr_part h, List.getElem?_drop, List.getElem?_take_of_lt (by omega)]
/-- the whole of it -/
theorem cutF_all : ∀ (ps : List Pc) (s hi : Nat), (∀ p ∈ ps, p.1 ≠ [] ∧ p.2 ≠ 0) → s + long ps ≤ hi → ∀ acc, (cutF 0 hi s ps).foldl stepT acc = ps.foldl stepT acc
  | [], _, _, _, _, _ => rfl
  | p :: r, s, hi, h, hl, acc => by
    have hp := h p List.mem_cons_self
    have n0 := List.length_pos_iff.mpr hp.1
    have p0 : 0 < plen p := Nat.mul_pos n0 (Nat.pos_of_ne_zero hp.2)
    have ll : long (p :: r) = plen p + long r := by simp [long]
    have e : cut1 0 hi s p = [p, ([], 1)] := by
      unfold cut1
      rw [if_pos ⟨by omega, by omega⟩, show min hi (s + plen p) - s = plen p by omega]
      unfold two
      have e1 : plen p / p.1.length = p.2 := Nat.mul_div_cancel_left _ n0
      have e2 : plen p % p.1.length = 0 := Nat.mul_mod_right _ _
      rw [Nat.zero_sub, Nat.sub_zero, Nat.zero_mod, e1, e2]
      simp [rot]
    rw [cutF, e, List.foldl_append, List.foldl_cons, List.foldl_cons, List.foldl_nil, List.foldl_cons, cutF_all r _ hi (fun q hq => h q (List.mem_cons_of_mem _ hq)) (by omega)]
    congr 1
theorem part_all {ps : List Pc} (h : Ty ps) : part ps 0 (long ps) = ps := by
  unfold part tidy
  rw [cutF_all ps 0 _ h.all (by omega)]
  exact tidy_id h
end KM

set_option Elab.async false
set_option linter.all false
set_option maxRecDepth 100000
set_option maxHeartbeats 2000000
namespace K04K
open K04 PySem PySem.Spec PyProof.Rows L2 CK SX KM
/-! ### letters -/
def Low (w : List Nat) : Prop := ∀ c ∈ w, 97 ≤ c ∧ c ≤ 122
theorem low_cases {c : Nat} (h : 97 ≤ c ∧ c ≤ 122) : Unicode.isAlpha c = true ∧ Unicode.isLower c = true ∧ (Unicode.isUpper c || Unicode.isTitle c) = false := by
  have : c ∈ List.range' 97 26 := by
    rw [List.mem_range']
    exact ⟨c - 97, by omega, by omega⟩
  have all : (List.range' 97 26).all (fun c => Unicode.isAlpha c && Unicode.isLower c && !(Unicode.isUpper c || Unicode.isTitle c)) = true := by decide +kernel
  have := List.all_eq_true.mp all c this
  simp only [Bool.and_eq_true, Bool.not_eq_true'] at this
  exact ⟨this.1.1, this.1.2, this.2⟩
theorem low_ascii {w : List Nat} (h : Low w) : Txt.isascii (S w) = true := by
  unfold Txt.isascii
  rw [← Array.all_toList, List.all_eq_true]
  exact fun c hc => decide_eq_true (by have := h c hc; omega)
theorem low_alpha {w : List Nat} (h : Low w) (ne : w ≠ []) : Txt.isalpha (S w) = true := by
  unfold Txt.isalpha
  rw [← Array.all_toList, S_len, decide_eq_true (List.length_pos_iff.mpr ne), Bool.true_and, List.all_eq_true]
  exact fun c hc => (low_cases (h c hc)).1
theorem low_lower {w : List Nat} (h : Low w) (ne : w ≠ []) : Txt.islower (S w) = true := by
  unfold Txt.islower
  rw [← Array.any_toList, ← Array.any_toList, Bool.and_eq_true]
  constructor
  · obtain ⟨c, hc⟩ := List.exists_mem_of_ne_nil w ne
    exact List.any_eq_true.mpr ⟨c, hc, (low_cases (h c hc)).2.1⟩
  · rw [Bool.not_eq_true', List.any_eq_false]
    exact fun c hc => by rw [(low_cases (h c hc)).2.2]; exact Bool.false_ne_true
section
variable {P : Program} {w : World} {K : PySem.W.Frag} {mg : Str → Option Value} {base : Heap} {C : Addr}
/-! ### checks -/
def sp_is_whole : Sp := fun vs H Q _ => ∃ v, vs = [v] ∧ Kn H v ∧ Q (.bl (isW v)) H
theorem c_is_whole (T : Txt K mg C) : C8.Cal P w K mg base 1 "is_whole" sp_is_whole [] := by
  refine calF T.d_is_whole sc_is_whole (fun vs H Q E h => ?_) (fun f cdv A outer s H vs Q E hr h => ?_)
  · obtain ⟨v, rfl, _⟩ := h; rfl
  · obtain ⟨v, rfl, k, q⟩ := h
    refine ⟨_, (pss_one (ps_ret (pe_and (pe_callB call_isK (by rfl) T.m_isinstance (by decide +kernel) (pa_cons (pv 0) (pa_cons (pe_bltn (v := .ty "int") (by rfl) T.m_int (by decide +kernel) rfl) pa_nil))) (pe_one (pe_not (pe_callB call_isK (by rfl) T.m_isinstance (by decide +kernel) (pa_cons (pv 0) (pa_cons (pe_bltn (v := .ty "bool") (by rfl) T.m_bool (by decide +kernel) rfl) pa_nil)))))))), ?_⟩
    refine ⟨v, rfl, v, "int", _, rfl, k, kit_int k, _, rfl, ite2 (fun e => ?_) (fun e => ?_)⟩
    · refine ⟨v, rfl, v, "bool", _, rfl, k, kit_bool k, _, rfl, ?_⟩
      rw [show (!isBo v) = isW v by cases v <;> first | rfl | (exact absurd e Bool.false_ne_true)]
      exact q
    · rw [show false = isW v by cases v <;> first | rfl | (exact absurd rfl e)]
      exact q
def sp_is_count : Sp := fun vs H Q _ => ∃ v, vs = [v] ∧ Kn H v ∧ Q (.bl (isC v)) H
theorem c_is_count (T : Txt K mg C) : C8.Cal P w K mg base 2 "is_count" sp_is_count [] := by
  refine calF T.d_is_count sc_is_count (fun vs H Q E h => ?_) (fun f cdv A outer s H vs Q E hr h => ?_)
  · obtain ⟨v, rfl, _⟩ := h; rfl
  · obtain ⟨v, rfl, k, q⟩ := h
    refine ⟨_, (pss_one (ps_ret (pe_and (C8.pe_c (c_is_whole T) hr (by decide) (by rfl) (pa_cons (pv 0) pa_nil)) (pe_one (pe_cmpR op_ge (pv 0) pe_int (nomark _)))))), ?_⟩
    refine ⟨v, rfl, v, rfl, k, _, rfl, ite2 (fun e => ?_) (fun e => ?_)⟩
    · cases v <;> first | (exact absurd e Bool.false_ne_true) | exact ⟨_, rfl, _, 0, rfl, rfl, q⟩
    · rw [show false = isC v by cases v <;> first | rfl | (exact absurd rfl e)]
      exact q
def sp_is_within : Sp := fun vs H Q _ => ∃ i lo hi : Int, vs = [.int i, .int lo, .int hi] ∧ Q (.bl (decide (lo ≤ i) && decide (i ≤ hi))) H
theorem c_is_within (T : Txt K mg C) : C8.Cal P w K mg base 2 "is_within" sp_is_within [] := by
  refine calF T.d_is_within sc_is_within (fun vs H Q E h => ?_) (fun f cdv A outer s H vs Q E hr h => ?_)
  · obtain ⟨i, lo, hi, rfl, _⟩ := h; rfl
  · obtain ⟨i, lo, hi, rfl, q⟩ := h
    refine ⟨_, (pss_one (ps_ret (pe_and (C8.pe_c (c_is_whole T) hr (by decide) (by rfl) (pa_cons (pv 0) pa_nil)) (pe_one (pe_chain op_le op_le (pv 1) (pv 0) (pv 2)))))), ?_⟩
    refine ⟨.int i, rfl, .int i, rfl, .int i, _, rfl, iteT ?_⟩
    refine ⟨_, rfl, _, rfl, lo, i, rfl, rfl, _, rfl, ite2 (fun e => ?_) (fun e => ?_)⟩
    · refine ⟨_, rfl, i, hi, rfl, rfl, ?_⟩
      rw [e, Bool.true_and] at q
      exact q
    · rw [Bool.not_eq_true] at e
      rw [e, Bool.false_and] at q
      exact q
def sp_need_within : Sp := fun vs H Q _ => ∃ i lo hi : Int, vs = [.int i, .int lo, .int hi] ∧ lo ≤ i ∧ i ≤ hi ∧ Q .non H
theorem c_need_within (T : Txt K mg C) : C8.Cal P w K mg base 3 "need_within" sp_need_within [] := by
  refine calF T.d_need_within sc_need_within (fun vs H Q E h => ?_) (fun f cdv A outer s H vs Q E hr h => ?_)
  · obtain ⟨i, lo, hi, rfl, _⟩ := h; rfl
  · obtain ⟨i, lo, hi, rfl, h1, h2, q⟩ := h
    refine ⟨_, (pss_one (ps_if (pt_not (pt_val (C8.pe_c (c_is_within T) hr (by decide) (by rfl) (pa_cons (pv 0) (pa_cons (pv 1) (pa_cons (pv 2) pa_nil))))))
    (pss_one ps_never)
    pss_nil)), ?_⟩
    refine ⟨_, rfl, _, rfl, _, rfl, i, lo, hi, rfl, _, rfl, ?_⟩
    rw [decide_eq_true h1, decide_eq_true h2]
    exact iteF q
theorem len_line {w : List Nat} (h : w.length ≤ 1000) : (S w).length ≤ sizeLine := by rw [S_len, sizeLine_eq]; omega
def sp_is_lettered : Sp := fun vs H Q _ => ∃ (z : List Nat) (m : Int), vs = [.str (S z), .int m] ∧ z.length ≤ 1000 ∧ (z.length : Int) ≤ m ∧ Low z ∧ Q (.bl true) H
theorem S_nil {z : List Nat} (h : (S z : Str) = "") : z = [] := by
  have := congrArg Str.length h
  rw [S_len] at this
  exact List.length_eq_zero_iff.mp this
theorem c_is_lettered (T : Txt K mg C) : C8.Cal P w K mg base 1 "is_lettered" sp_is_lettered [] := by
  refine calF T.d_is_lettered sc_is_lettered (fun vs H Q E h => ?_) (fun f cdv A outer s H vs Q E hr h => ?_)
  · obtain ⟨_, _, rfl, _⟩ := h; rfl
  · obtain ⟨z, m, rfl, hl, hm, lw, q⟩ := h
    refine ⟨_, (pss_cons (ps_if (PW.pt (pw_or (pt_not (pt_val (pe_callB call_isK (by rfl) T.m_isinstance (by decide +kernel) (pa_cons (pv 0) (pa_cons (pe_bltn (v := .ty "str") (by rfl) T.m_str (by decide +kernel) rfl) pa_nil))))) (pw_or1 (pt_cmpR op_gt (pe_callB call_len_str (by rfl) T.m_len (by decide +kernel) (pa_cons (pv 0) pa_nil)) (pv 1) (nomark _)))))
    (pss_one (ps_ret pe_bl))
    pss_nil)
    (pss_one (ps_ret (pe_or (pe_cmpR op_eq (pv 0) pe_str (nomark _)) (pe_one (pe_and (pe_m0 PySem.F.slot_str_isascii PySem.F.type_str_isascii mt_isascii (pv 0)) (pe_and (pe_m0 PySem.F.slot_str_isalpha PySem.F.type_str_isalpha mt_isalpha (pv 0)) (pe_one (pe_m0 PySem.F.slot_str_islower PySem.F.type_str_islower mt_islower (pv 0)))))))))), ?_⟩
    refine ⟨_, rfl, .str (S z), "str", true, rfl, .str _, by show kitB "str" "str" = some true; decide +kernel, _, rfl, iteF ?_⟩
    refine ⟨_, rfl, S z, rfl, len_line hl, _, rfl, _, m, rfl, rfl, _, rfl, ?_⟩
    rw [S_len, decide_eq_false (by omega)]
    refine iteF ⟨_, rfl, rfl, _, rfl, ite2 (fun e => q) fun e => ?_⟩
    have ne : z ≠ [] := fun y => e (by rw [y]; decide +kernel)
    refine ⟨_, rfl, ⟨_, rfl⟩, _, rfl, rfl, trivial, _, rfl, ?_⟩
    rw [low_ascii lw]
    refine iteT ⟨_, rfl, ⟨_, rfl⟩, _, rfl, rfl, trivial, _, rfl, ?_⟩
    rw [low_alpha lw ne]
    refine iteT ⟨_, rfl, ⟨_, rfl⟩, _, rfl, rfl, trivial, ?_⟩
    rw [low_lower lw ne]
    exact q
end
end K04K

set_option Elab.async false
set_option linter.all false
set_option maxRecDepth 100000
set_option maxHeartbeats 2000000
namespace K04K
open K04 PySem PySem.Spec PyProof.Rows L2 CK SX KM
/-! ### pieces in the heap -/
inductive Pcs (H : Hp) : List V → List Pc → Prop
  | nil : Pcs H [] []
  | cons {a : Addr} {vs : List V} {p : Pc} {ps : List Pc} : H a = some (.tup [.str (S p.1), .int p.2]) → Pcs H vs ps → Pcs H (.ref a :: vs) (p :: ps)
theorem Pcs.mono {H H' : Hp} {vs : List V} {ps : List Pc} (h : Pcs H vs ps) (s : ∀ a xs, H a = some (.tup xs) → H' a = some (.tup xs)) : Pcs H' vs ps := by
  induction h with
  | nil => exact .nil
  | cons e _ ih => exact .cons (s _ _ e) ih
theorem Pcs.same {H H' : Hp} {vs : List V} {ps : List Pc} (h : Pcs H vs ps) (s : Same H H') : Pcs H' vs ps := h.mono fun a xs e => s _ _ e
theorem Pcs.upd {H : Hp} {vs : List V} {ps : List Pc} {l : Addr} {xs ys : List V} (h : Pcs H vs ps) (hl : H l = some (.lst xs)) : Pcs (upd H l (.lst ys)) vs ps :=
  h.mono fun a zs e => by
    rw [upd_ne (fun z => by rw [z, hl] at e; cases e)]
    exact e
theorem Pcs.len {H : Hp} {vs : List V} {ps : List Pc} (h : Pcs H vs ps) : vs.length = ps.length := by
  induction h with
  | nil => rfl
  | cons _ _ ih => simp [ih]
theorem Pcs.app {H : Hp} {vs us : List V} {ps qs : List Pc} (h : Pcs H vs ps) (g : Pcs H us qs) : Pcs H (vs ++ us) (ps ++ qs) := by
  induction h with
  | nil => exact g
  | cons e _ ih => exact .cons e ih
theorem Pcs.get {H : Hp} {vs : List V} {ps : List Pc} (h : Pcs H vs ps) {i : Nat} {v : V} (hi : vs[i]? = some v) : ∃ a p, v = .ref a ∧ ps[i]? = some p ∧ H a = some (.tup [.str (S p.1), .int p.2]) := by
  induction h generalizing i with
  | nil => simp at hi
  | cons e _ ih =>
    cases i with
    | zero =>
      cases hi
      exact ⟨_, _, rfl, rfl, e⟩
    | succ i => exact ih hi
theorem Pcs.at {H : Hp} {vs : List V} {ps : List Pc} (h : Pcs H vs ps) {i : Nat} {p : Pc} (hi : ps[i]? = some p) : ∃ a, vs[i]? = some (.ref a) ∧ H a = some (.tup [.str (S p.1), .int p.2]) := by
  induction h generalizing i with
  | nil => simp at hi
  | cons e _ ih =>
    cases i with
    | zero =>
      cases hi
      exact ⟨_, rfl, e⟩
    | succ i => exact ih hi
theorem Pcs.init {H : Hp} {vs : List V} {ps : List Pc} (h : Pcs H vs ps) : Pcs H vs.dropLast ps.dropLast := by
  induction h with
  | nil => exact .nil
  | cons e h ih =>
    cases h with
    | nil => exact .nil
    | cons e2 h2 => exact .cons e ih
theorem Pcs.one {H : Hp} {a : Addr} {p : Pc} (e : H a = some (.tup [.str (S p.1), .int p.2])) : Pcs H [.ref a] [p] := .cons e .nil
/-- a list of pieces -/
def PL (H : Hp) (l : Addr) (ps : List Pc) : Prop := ∃ vs, H l = some (.lst vs) ∧ Pcs H vs ps
theorem PL.same {H H' : Hp} {l : Addr} {ps : List Pc} (h : PL H l ps) (s : Same H H') : PL H' l ps := by
  obtain ⟨vs, e, p⟩ := h
  exact ⟨vs, s _ _ e, p.same s⟩
/-- pieces as the law has them: few, short, of small letters, their numbers not too great -/
structure OK (n : Nat) (ps : List Pc) : Prop where
  len : ps.length ≤ n
  word : ∀ p ∈ ps, p.1.length ≤ 1000 ∧ Low p.1
  num : (ps.map (·.2)).sum ≤ n * 2 ^ 200
  lets : (ps.map (·.1.length)).sum ≤ n * 10
theorem OK.le {n m : Nat} {ps : List Pc} (h : OK n ps) (hm : n ≤ m) : OK m ps := ⟨by have := h.len; omega, h.word, Nat.le_trans h.num (Nat.mul_le_mul_right _ hm), Nat.le_trans h.lets (Nat.mul_le_mul_right _ hm)⟩
theorem le_sum {x : Nat} : ∀ {l : List Nat}, x ∈ l → x ≤ l.sum
  | [], h => by simp at h
  | a :: l, h => by
    rw [List.sum_cons]
    rcases List.mem_cons.mp h with z | z
    · omega
    · have := le_sum z
      omega
theorem OK.times {n : Nat} {ps : List Pc} (h : OK n ps) (hn : n ≤ 1000) {p : Pc} (hp : p ∈ ps) : p.2 < 2 ^ 300 := by
  have h1 : p.2 ≤ (ps.map (·.2)).sum := le_sum (List.mem_map.mpr ⟨p, hp, rfl⟩)
  have h2 : n * 2 ^ 200 ≤ 1000 * 2 ^ 200 := Nat.mul_le_mul_right _ hn
  have h3 := h.num
  omega
theorem OK.app {n m : Nat} {a b : List Pc} (h : OK n a) (g : OK m b) : OK (n + m) (a ++ b) := by
  refine ⟨by rw [List.length_append]; have := h.len; have := g.len; omega, fun p hp => ?_, ?_, ?_⟩
  · rcases List.mem_append.mp hp with z | z
    · exact h.word p z
    · exact g.word p z
  · rw [List.map_append, List.sum_append, Nat.add_mul]
    exact Nat.add_le_add h.num g.num
  · rw [List.map_append, List.sum_append, Nat.add_mul]
    exact Nat.add_le_add h.lets g.lets
theorem OK.nil {n : Nat} : OK n [] := ⟨Nat.zero_le _, fun p hp => absurd hp List.not_mem_nil, Nat.zero_le _, Nat.zero_le _⟩
theorem sum_init {l : List Pc} {q : Pc} (h : l.getLast? = some q) : (l.map (·.2)).sum = (l.dropLast.map (·.2)).sum + q.2 := by
  conv => lhs; rw [last_split h]
  simp
theorem sum_initL {l : List Pc} {q : Pc} (h : l.getLast? = some q) : (l.map (·.1.length)).sum = (l.dropLast.map (·.1.length)).sum + q.1.length := by
  conv => lhs; rw [last_split h]
  simp
theorem OK.step {n : Nat} {acc : List Pc} (h : OK n acc) {p : Pc} (hw : p.1.length ≤ 1000 ∧ Low p.1) : (stepT acc p).length ≤ acc.length + 1 ∧ (∀ q ∈ stepT acc p, q.1.length ≤ 1000 ∧ Low q.1) ∧ ((stepT acc p).map (·.2)).sum ≤ (acc.map (·.2)).sum + p.2 ∧ ((stepT acc p).map (·.1.length)).sum ≤ (acc.map (·.1.length)).sum + p.1.length := by
  unfold stepT
  split
  · exact ⟨by omega, h.word, by omega, by omega⟩
  · have app : (acc ++ [p]).length ≤ acc.length + 1 ∧ (∀ q ∈ acc ++ [p], q.1.length ≤ 1000 ∧ Low q.1) ∧ ((acc ++ [p]).map (·.2)).sum ≤ (acc.map (·.2)).sum + p.2 ∧ ((acc ++ [p]).map (·.1.length)).sum ≤ (acc.map (·.1.length)).sum + p.1.length := by
      refine ⟨by simp, fun q hq => ?_, by simp, by simp⟩
      rcases List.mem_append.mp hq with z | z
      · exact h.word q z
      · rw [List.mem_singleton.mp z]
        exact hw
    split
    · next q hq =>
      split
      · next e =>
        refine ⟨by simp <;> omega, fun r hr => ?_, ?_, ?_⟩
        · rcases List.mem_append.mp hr with z | z
          · exact h.word r (List.dropLast_subset _ z)
          · rw [List.mem_singleton.mp z]
            exact hw
        · rw [sum_init hq]
          simp
          omega
        · rw [sum_initL hq, e]
          simp
      · exact app
    · exact app
theorem OK.fold : ∀ (ps : List Pc) {n m : Nat} {acc : List Pc}, OK n acc → OK m ps → OK (n + m) (ps.foldl stepT acc) := by
  intro ps n m acc ha hp
  suffices h : ∀ (ps acc : List Pc), (∀ q ∈ acc, q.1.length ≤ 1000 ∧ Low q.1) → (∀ q ∈ ps, q.1.length ≤ 1000 ∧ Low q.1) →
      (ps.foldl stepT acc).length ≤ acc.length + ps.length ∧ (∀ q ∈ ps.foldl stepT acc, q.1.length ≤ 1000 ∧ Low q.1) ∧ ((ps.foldl stepT acc).map (·.2)).sum ≤ (acc.map (·.2)).sum + (ps.map (·.2)).sum ∧ ((ps.foldl stepT acc).map (·.1.length)).sum ≤ (acc.map (·.1.length)).sum + (ps.map (·.1.length)).sum by
    obtain ⟨h1, h2, h3, h4⟩ := h ps acc ha.word hp.word
    refine ⟨by have := ha.len; have := hp.len; omega, h2, ?_, ?_⟩
    · have := ha.num
      have := hp.num
      rw [Nat.add_mul]
      omega
    · have := ha.lets
      have := hp.lets
      rw [Nat.add_mul]
      omega
  intro ps
  induction ps with
  | nil => exact fun acc h1 _ => ⟨by simp, h1, by simp, by simp⟩
  | cons p r ih =>
    intro acc h1 h2
    have hO : OK (acc.length + (acc.map (·.2)).sum + (acc.map (·.1.length)).sum) acc := ⟨by omega, h1, by
      have : 0 < 2 ^ 200 := Nat.two_pow_pos _
      have := Nat.le_mul_of_pos_right (acc.length + (acc.map (·.2)).sum + (acc.map (·.1.length)).sum) this
      omega, by omega⟩
    obtain ⟨a, b, c, c2⟩ := hO.step (h2 p List.mem_cons_self)
    obtain ⟨d, e, f, f2⟩ := ih (stepT acc p) b fun q hq => h2 q (List.mem_cons_of_mem _ hq)
    rw [List.foldl_cons]
    refine ⟨by simp; omega, e, ?_, ?_⟩
    · simp
      omega
    · simp
      omega
theorem OK.tidy {n : Nat} {ps : List Pc} (h : OK n ps) : OK n (tidy ps) := by
  have := OK.fold ps (OK.nil (n := 0)) h
  rw [Nat.zero_add] at this
  exact this
section
variable {P : Program} {w : World} {K : PySem.W.Frag} {mg : Str → Option Value} {base : Heap} {C : Addr}
def sp_turned : Sp := fun vs H Q _ => ∃ (z : List Nat) (k : Nat), vs = [.str (S z), .int k] ∧ z.length ≤ 1000 ∧ z ≠ [] ∧ Q (.str (S (rot z (k % z.length)))) H
theorem c_turned_word (T : Txt K mg C) : C8.Cal P w K mg base 1 "turned_word" sp_turned [] := by
  refine calF T.d_turned_word sc_turned_word (fun vs H Q E h => ?_) (fun f cdv A outer s H vs Q E hr h => ?_)
  · obtain ⟨_, _, rfl, _⟩ := h; rfl
  · obtain ⟨z, k, rfl, hl, ne, q⟩ := h
    have n0 := List.length_pos_iff.mpr ne
    refine ⟨_, (pss_cons (ps_if (pt_not (pt_truth (pv 0) (by intro _; rfl)))
    (pss_one (ps_ret (pv 0)))
    pss_nil)
    (pss_cons (ps_set (i := 2) sc_turned_word.nd rfl (Or.inl rfl) (pe_op op_modZ (pv 1) (pe_callB call_len_str (by rfl) T.m_len (by decide +kernel) (pa_cons (pv 0) pa_nil))))
    (pss_one (ps_ret (pe_op op_add_str (pe_slice C8.sl_txt (pv 0) (po_some (pv 2)) po_none) (pe_slice C8.sl_txt (pv 0) po_none (po_some (pv 2)))))))), ?_⟩
    refine ⟨_, rfl, true, ⟨len_line hl, ?_⟩, iteF ?_⟩
    · rw [S_len]
      symm
      rw [bne_iff_ne]
      omega
    have hm := Nat.mod_lt k n0
    refine ⟨_, rfl, _, rfl, S z, rfl, len_line hl, k, z.length, rfl, congrArg (fun n : Nat => V.int n) (S_len z), by omega, ?_⟩
    refine ⟨_, rfl, _, rfl, _, rfl, S z, rfl, len_line hl, _, rfl, _, rfl, _, rfl, S z, rfl, len_line hl, ?_⟩
    rw [SX.slice_from (by omega), SX.slice_to (by omega), Int.toNat_natCast]
    refine ⟨_, _, rfl, rfl, ?_, ?_⟩
    · rw [S_len, S_len, List.length_drop, List.length_take, sizeLine_eq]
      omega
    · rw [S_cat]
      exact q
/-! what a piece is -/
def sp_is_kept_piece : Sp := fun vs H Q _ => ∃ (a : Addr) (p : Pc), vs = [.ref a] ∧ H a = some (.tup [.str (S p.1), .int p.2]) ∧ p.1.length ≤ 1000 ∧ Low p.1 ∧ Q (.bl true) H
theorem c_is_kept_piece (T : Txt K mg C) : C8.Cal P w K mg base 3 "is_kept_piece" sp_is_kept_piece [] := by
  refine calF T.d_is_kept_piece sc_is_kept_piece (fun vs H Q E h => ?_) (fun f cdv A outer s H vs Q E hr h => ?_)
  · obtain ⟨_, _, rfl, _⟩ := h; rfl
  · obtain ⟨a, p, rfl, ha, hl, lw, q⟩ := h
    have kn : Kn H (.ref a) := .tup ha
    refine ⟨_, (pss_cons (ps_if (PW.pt (pw_or (pt_not (pt_val (pe_callB call_isK (by rfl) T.m_isinstance (by decide +kernel) (pa_cons (pv 0) (pa_cons (pe_bltn (v := .ty "tuple") (by rfl) T.m_tuple (by decide +kernel) rfl) pa_nil))))) (pw_or1 (pt_cmpR op_ne (pe_callB call_len_seq (by rfl) T.m_len (by decide +kernel) (pa_cons (pv 0) pa_nil)) pe_int (nomark _)))))
    (pss_one (ps_ret pe_bl))
    pss_nil)
    (pss_one (ps_ret (pe_and (C8.pe_c (c_is_lettered T) hr (by decide) (by rfl) (pa_cons (pe_ix ix_tup (pv 0) pe_int (fun _ _ => rfl)) (pa_cons (C8.pe_gc (by rfl) T.k_MOST_KEPT_WORD) pa_nil))) (pe_one (C8.pe_c (c_is_count T) hr (by decide) (by rfl) (pa_cons (pe_ix ix_tup (pv 0) pe_int (fun _ _ => rfl)) pa_nil))))))), ?_⟩
    refine ⟨_, rfl, .ref a, "tuple", _, rfl, kn, kit_tuple kn, _, rfl, ?_⟩
    rw [isTu_tup ha]
    refine iteF ⟨_, rfl, a, _, rfl, .inr (.inl (.inl ha)), rfl, _, rfl, iteF ?_⟩
    refine ⟨_, rfl, a, _, 0, _, rfl, rfl, .inl (.inl ha), atI_nat (j := 0) rfl, p.1, 2000, rfl, hl, by omega, lw, _, rfl, iteT ?_⟩
    refine ⟨_, rfl, a, _, 1, _, rfl, rfl, .inl (.inl ha), atI_nat (j := 1) rfl, .int p.2, rfl, .int _, ?_⟩
    rw [show isC (.int p.2) = true from decide_eq_true (show (0 : Int) ≤ (p.2 : Int) by omega)]
    exact q
def sp_need_kept_pieces : Sp := fun vs H Q _ => ∃ (l : Addr) (ps : List Pc) (n : Nat), vs = [.ref l] ∧ PL H l ps ∧ OK n ps ∧ n ≤ 1000 ∧ ∀ H', Same H H' → Q .non H'
theorem sum_len (ps : List Pc) : (ps.map fun p => (p.1.length : Int)).sum = (((ps.map (·.1.length)).sum : Nat) : Int) := by
  induction ps with
  | nil => rfl
  | cons p r ih => rw [List.map_cons, List.sum_cons, ih, List.map_cons, List.sum_cons, Int.natCast_add]
def lenV : V → V := fun _ => .non
theorem c_need_kept_pieces (T : Txt K mg C) : C8.Cal P w K mg base 4 "need_kept_pieces" sp_need_kept_pieces [] := by
  refine calF T.d_need_kept_pieces sc_need_kept_pieces (fun vs H Q E h => ?_) (fun f cdv A outer s H vs Q E hr h => ?_)
  · obtain ⟨_, _, _, rfl, _⟩ := h; rfl
  · obtain ⟨l, ps, n, rfl, ⟨vs, hl, hp⟩, ok, hn, q⟩ := h
    have kn : Kn H (.ref l) := .lst hl
    have len := hp.len
    have okl := ok.len
    refine ⟨_, (pss_cons (ps_if (PW.pt (pw_or (pt_not (pt_val (pe_callB call_isK (by rfl) T.m_isinstance (by decide +kernel) (pa_cons (pv 0) (pa_cons (pe_bltn (v := .ty "list") (by rfl) T.m_list (by decide +kernel) rfl) pa_nil))))) (pw_or1 (pt_cmpR op_gt (pe_callB call_len_seq (by rfl) T.m_len (by decide +kernel) (pa_cons (pv 0) pa_nil)) (C8.pe_gc (by rfl) T.k_MOST_KEPT_PIECES) (nomark _)))))
    (pss_one ps_never)
    pss_nil)
    (pss_cons (ps_for PassesOwn.never rfl (pi_list (pv 0)) (pg_name (i := 1) sc_need_kept_pieces.nd rfl (Or.inl rfl))
    (pss_one (ps_if (pt_not (pt_val (C8.pe_c (c_is_kept_piece T) hr (by decide) (by rfl) (pa_cons (pv 1) pa_nil))))
    (pss_one ps_never)
    pss_nil)))
    (pss_cons (ps_set (i := 2) sc_need_kept_pieces.nd rfl (Or.inl rfl) (pe_callB (cr_sum rfl) (by rfl) T.m_sum (by decide +kernel) (pa_cons (pe_lc (own := [("word", 3), ("_", 4)]) (by rfl) sc_need_kept_pieces.nd (pi_list (pv 0)) (blkOk_by (N := ["value", "item", "many", "word", "_"]) (sc := C8.fnScope (topS 23)) (own := [("word", 3), ("_", 4)]) (by decide +kernel)) (fun _ _ _ _ _ => (pg_two (K := K) (i := 3) (j := 4) rfl rfl sc_need_kept_pieces.nd rfl rfl (Or.inl rfl) (Or.inl rfl))) (fun _ _ _ _ _ => pts_nil) (fun _ _ _ _ _ => (pe_callB call_len_str (by rfl) T.m_len (by decide +kernel) (pa_cons (pv 3) pa_nil)))) pa_nil)))
    (pss_one (ps_if (pt_cmpR op_gt (pv 2) (C8.pe_gc (by rfl) T.k_MOST_KEPT_LETTERS) (nomark _))
    (pss_one ps_never)
    pss_nil))))), ?_⟩
    refine ⟨_, rfl, .ref l, "list", _, rfl, kn, kit_list kn, _, rfl, ?_⟩
    rw [isLi_lst hl]
    refine iteF ⟨_, rfl, l, vs, rfl, .inl (.inl (.inl hl)), _, 5000, rfl, rfl, _, rfl, ?_⟩
    rw [decide_eq_false (by omega)]
    refine iteF ?_
    refine ⟨_, rfl, l, rfl, ⟨_, .inl (.inl hl)⟩, for_list (K := K) (a := l) (xs := vs) (fun i σ H' => H' = H ∧ ∃ y1, σ = [some (.ref l), y1, none, none, none]) ⟨rfl, none, rfl⟩ (fun i σ H' _ p => by rw [p.1]; exact .inl (.inl hl)) (fun i y σ H' hi p => ?_) (fun σ H' p => ?_)⟩
    · obtain ⟨rfl, y1, rfl⟩ := p
      obtain ⟨a, p, rfl, hpi, ha⟩ := hp.get hi
      have hw := ok.word p (List.mem_of_getElem? hpi)
      exact ⟨_, rfl, a, p, rfl, ha, by omega, hw.2, _, rfl, iteF ⟨rfl, _, rfl⟩⟩
    · obtain ⟨rfl, y1, rfl⟩ := p
      refine ⟨_, rfl, l, rfl, ⟨_, .inl (.inl hl)⟩, fun D hD => ?_⟩
      have hDl : D ≠ l := fun z => by rw [z, hl] at hD; cases hD
      refine lc_list (K := K) (a := l) (xs := vs) (fun i H1 => Same H' H1 ∧ H1 D = some (.lst ((ps.take i).map fun p => V.int p.1.length))) ⟨sameNew hD, by rw [upd_same]; rfl⟩ (fun i H1 _ p => .inl (.inl (p.1 _ _ hl))) (fun i y H1 hi p => ?_) fun H1 p => ?_
      · obtain ⟨s1, hD1⟩ := p
        obtain ⟨a, p, rfl, hpi, ha⟩ := hp.get hi
        have hw := ok.word p (List.mem_of_getElem? hpi)
        have hii := (List.getElem?_eq_some_iff.mp hpi).1
        refine ⟨a, _, rfl, .inl (.inl (s1 _ _ ha)), rfl, _, _, rfl, _, _, rfl, rfl, rfl, ?_⟩
        refine ⟨_, rfl, S p.1, rfl, len_line (by omega), _, hD1, ?_, same_upd2 hD s1, ?_⟩
        · rw [List.length_map, List.length_take, sizeLine_eq]
          omega
        · rw [upd_same, List.take_succ, hpi, S_len]
          simp
      · obtain ⟨s1, hD1⟩ := p
        rw [len, List.take_length] at hD1
        refine ⟨D, ps.map fun p => (p.1.length : Int), rfl, .inl (.inl (by rw [hD1, List.map_map]; rfl)), ?_⟩
        have := sum_len ps
        have := ok.lets
        refine ⟨_, rfl, _, 10000, rfl, rfl, _, rfl, ?_⟩
        rw [decide_eq_false (by omega)]
        exact iteF (q _ s1)
end
end K04K

set_option Elab.async false
set_option linter.all false
set_option maxRecDepth 100000
set_option maxHeartbeats 2000000
namespace K04K
open K04 PySem PySem.Spec PyProof.Rows L2 CK SX KM
theorem step_len (acc : List Pc) (p : Pc) : (stepT acc p).length ≤ acc.length + 1 := by
  unfold stepT
  split
  · omega
  · split
    · split
      · simp <;> omega
      · simp
    · simp
theorem fold_len : ∀ (ps acc : List Pc), (ps.foldl stepT acc).length ≤ acc.length + ps.length
  | [], acc => by simp
  | p :: r, acc => by
    rw [List.foldl_cons]
    have := fold_len r (stepT acc p)
    have := step_len acc p
    rw [List.length_cons]
    omega
theorem app_end {H H2 : Hp} {r t : Addr} {ws : List V} {acc : List Pc} {p : Pc} (s : Same H H2) (hr : H r = none) (h2 : H2 r = some (.lst ws)) (hp : Pcs H2 ws acc) (ht : H2 t = none) :
    Same H (upd (upd H2 t (.tup [.str (S p.1), .int p.2])) r (.lst (ws ++ [.ref t]))) ∧ PL (upd (upd H2 t (.tup [.str (S p.1), .int p.2])) r (.lst (ws ++ [.ref t]))) r (acc ++ [p]) := by
  have rt : r ≠ t := fun z => by rw [z, ht] at h2; cases h2
  have st : Same H2 (upd H2 t (.tup [.str (S p.1), .int p.2])) := sameNew ht
  have h3 : upd H2 t (.tup [.str (S p.1), .int p.2]) r = some (.lst ws) := st _ _ h2
  refine ⟨same_upd2 hr (s.trans st), _, upd_same, ((hp.same st).upd h3).app (.one ?_)⟩
  rw [upd_ne (Ne.symm rt), upd_same]
theorem take_step {ps : List Pc} {i : Nat} {p : Pc} (h : ps[i]? = some p) : (ps.take (i + 1)).foldl stepT [] = stepT ((ps.take i).foldl stepT []) p := by
  rw [List.take_succ, h]
  simp
theorem last_at {vs : List V} {v : V} (h : vs[vs.length - 1]? = some v) : atI vs (-1) = some v := by
  have hl := (List.getElem?_eq_some_iff.mp h).1
  have e : vs = vs.dropLast ++ [v] := by
    apply last_split
    rw [List.getLast?_eq_getElem?]
    exact h
  rw [e]
  exact atI_last _ _
section
variable {P : Program} {w : World} {K : PySem.W.Frag} {mg : Str → Option Value} {base : Heap} {C : Addr}
def sp_put_together : Sp := fun vs H Q _ => ∃ (l : Addr) (ps : List Pc), vs = [.ref l] ∧ PL H l ps ∧ ps.length ≤ 2000 ∧ (∀ p ∈ ps, p.1.length ≤ 1000) ∧ ∀ r H', Same H H' → H r = none → PL H' r (tidy ps) → Q (.ref r) H'
theorem c_put_together (T : Txt K mg C) : C8.Cal P w K mg base 1 "put_together" sp_put_together [] := by
  refine calF T.d_put_together sc_put_together (fun vs H Q E h => ?_) (fun f cdv A outer s H vs Q E hr h => ?_)
  · obtain ⟨_, _, rfl, _⟩ := h; rfl
  · obtain ⟨l, ps, rfl, ⟨vs, hl, hp⟩, len, hw, q⟩ := h
    have lv := hp.len
    refine ⟨_, (pss_cons (ps_set (i := 1) sc_put_together.nd rfl (Or.inl rfl) (pe_lst pa_nil))
    (pss_cons (ps_for PassesOwn.never rfl (pi_list (pv 0)) (pg_two (K := K) (i := 2) (j := 3) rfl rfl sc_put_together.nd rfl rfl (Or.inl rfl) (Or.inl rfl))
    (pss_cons (ps_if (PW.pt (pw_or (pt_not (pt_truth (pv 2) (by intro _; rfl))) (pw_or1 (pt_not (pt_truth (pv 3) (by intro _; rfl))))))
    (pss_one ps_continue)
    pss_nil)
    (pss_cons (ps_if (PW.pt (pw_and (pt_truth (pv 1) (by intro _; rfl)) (pw_and1 (pt_cmpR op_eq (pe_ix ix_tup (pe_ix ix_list (pv 1) (pe_un un_neg pe_int) (fun _ _ => rfl)) pe_int (fun _ _ => rfl)) (pv 2) (nomark _)))))
    (pss_one (ps_aug (i := 3) sc_put_together.nd rfl (.inl rfl) (pe_ix ix_tup (pe_bm0 PySem.F.plainAttrs_list PySem.F.slot_list_pop PySem.F.type_list_pop mt_pop (pv 1)) pe_int (fun _ _ => rfl)) ip_add))
    pss_nil)
    (pss_one (ps_expr (pe_bm PySem.F.plainAttrs_list PySem.F.slot_list_append PySem.F.type_list_append mt_append (pv 1) (pa_cons (pe_tup (pa_cons (pv 2) (pa_cons (pv 3) pa_nil))) pa_nil)))))))
    (pss_one (ps_ret (pv 1))))), ?_⟩
    refine ⟨by show 0 ≤ sizeLine; omega, fun r hr0 => ?_⟩
    have rl : r ≠ l := fun z => by rw [z, hl] at hr0; cases hr0
    refine ⟨_, rfl, l, rfl, ⟨_, .inl (.inl (sameNew hr0 _ _ hl))⟩, for_list (K := K) (a := l) (xs := vs) (fun i σ H' => Same H H' ∧ (∃ y2 y3, σ = [some (.ref l), some (.ref r), y2, y3]) ∧ PL H' r ((ps.take i).foldl stepT []))
      ⟨sameNew hr0, ⟨none, none, rfl⟩, [], upd_same, .nil⟩ (fun i σ H' _ p => .inl (.inl (p.1 _ _ hl))) (fun i y σ H' hi p => ?_) (fun σ H' p => ?_)⟩
    · obtain ⟨s1, ⟨y2, y3, rfl⟩, ws, hws, pw⟩ := p
      obtain ⟨a, p, rfl, hpi, ha⟩ := hp.get hi
      have hwp := hw p (List.mem_of_getElem? hpi)
      have hii := (List.getElem?_eq_some_iff.mp hpi).1
      have lacc := fold_len (ps.take i) []
      have lw := pw.len
      rw [List.length_take] at lacc
      have acc1000 : ws.length < sizeLine := by rw [sizeLine_eq]; simp at lacc; omega
      rw [show ((ps.take (i + 1)).foldl stepT [] : List Pc) = stepT ((ps.take i).foldl stepT []) p from take_step hpi]
      generalize hacc : (ps.take i).foldl stepT [] = acc at pw lw lacc
      refine ⟨a, _, rfl, .inl (.inl (s1 _ _ ha)), rfl, _, _, rfl, _, _, rfl, rfl, ?_⟩
      by_cases w0 : p.1 = []
      · have e : stepT acc p = acc := by unfold stepT; rw [if_pos (.inl w0)]
        refine ⟨_, rfl, false, ⟨len_line hwp, by rw [w0]; rfl⟩, iteT (iteT ?_)⟩
        exact ⟨s1, ⟨_, _, rfl⟩, by rw [e]; exact ⟨ws, hws, pw⟩⟩
      · have n0 := List.length_pos_iff.mpr w0
        refine ⟨_, rfl, true, ⟨len_line hwp, by rw [S_len]; symm; rw [bne_iff_ne]; omega⟩, iteF ?_⟩
        by_cases t0 : p.2 = 0
        · have e : stepT acc p = acc := by unfold stepT; rw [if_pos (.inr t0)]
          refine ⟨_, rfl, false, by rw [t0]; rfl, iteT ?_⟩
          exact ⟨s1, ⟨_, _, rfl⟩, by rw [e]; exact ⟨ws, hws, pw⟩⟩
        · refine ⟨_, rfl, true, by show true = ((p.2 : Int) != 0); symm; rw [bne_iff_ne]; omega, iteF ?_⟩
          have np : ¬ (p.1 = [] ∨ p.2 = 0) := fun z => z.elim w0 t0
          cases hlast : ws.getLast? with
          | none =>
            have we : ws = [] := List.getLast?_eq_none_iff.mp hlast
            subst we
            cases pw
            have e : stepT [] p = [] ++ [p] := by unfold stepT; rw [if_neg np]; rfl
            refine ⟨_, rfl, false, .inl ⟨_, .inl (.inl hws), rfl⟩, iteF ?_⟩
            refine ⟨_, rfl, .inl ⟨rfl, _, .inl (.inl hws)⟩, _, rfl, _, rfl, by show 2 ≤ sizeLine; decide, fun t ht => ⟨r, _, _, rfl, rfl, sameNew ht _ _ hws, acc1000, ?_⟩⟩
            have := app_end s1 hr0 hws .nil ht (p := p)
            exact ⟨this.1, ⟨_, _, rfl⟩, by rw [e]; exact this.2⟩
          | some v =>
            have hv : ws[ws.length - 1]? = some v := by rw [← List.getLast?_eq_getElem?]; exact hlast
            have wne : ws ≠ [] := fun z => by rw [z] at hlast; cases hlast
            obtain ⟨b, q', rfl, hq, hb⟩ := pw.get hv
            have hq' : acc.getLast? = some q' := by rw [List.getLast?_eq_getElem?, ← lw]; exact hq
            refine ⟨_, rfl, true, .inl ⟨_, .inl (.inl hws), by cases ws with | nil => exact absurd rfl wne | cons _ _ => rfl⟩, iteT ?_⟩
            refine ⟨_, rfl, 1, rfl, r, _, -1, _, rfl, rfl, .inl (.inl hws), last_at hv, b, _, 0, _, rfl, rfl, .inl (.inl hb), atI_nat (j := 0) rfl, _, rfl, rfl, _, rfl, ite2 (fun e => ?_) (fun e => ?_)⟩
            · have e1 : q'.1 = p.1 := S_inj (V.str.inj (of_decide_eq_true e))
              have es : stepT acc p = acc.dropLast ++ [(p.1, p.2 + q'.2)] := by unfold stepT; rw [if_neg np, hq']; simp [e1]
              have hb2 : upd H' r (.lst ws.dropLast) b = some (.tup [.str (S q'.1), .int q'.2]) := by
                rw [upd_ne (fun z => by rw [z, hws] at hb; cases hb)]
                exact hb
              refine ⟨_, rfl, _, rfl, .inl ⟨rfl, _, .inl (.inl hws)⟩, r, _, _, rfl, rfl, hws, hv, b, _, 1, _, rfl, rfl, .inl (.inl hb2), atI_nat (j := 1) rfl, _, _, rfl, rfl, ?_⟩
              have s2 : Same H (upd H' r (.lst ws.dropLast)) := same_upd2 hr0 s1
              have h2 : upd H' r (.lst ws.dropLast) r = some (.lst ws.dropLast) := upd_same
              refine ⟨_, rfl, .inl ⟨rfl, _, .inl (.inl h2)⟩, _, rfl, _, rfl, by show 2 ≤ sizeLine; decide, fun t ht => ⟨r, _, _, rfl, rfl, sameNew ht _ _ h2, by rw [List.length_dropLast]; omega, ?_⟩⟩
              have := app_end s2 hr0 h2 (pw.init.upd hws) ht (p := (p.1, p.2 + q'.2))
              exact ⟨this.1, ⟨_, _, rfl⟩, by rw [es]; exact this.2⟩
            · have e1 : ¬ q'.1 = p.1 := fun z => e (by rw [z]; exact decide_eq_true rfl)
              have es : stepT acc p = acc ++ [p] := by unfold stepT; rw [if_neg np, hq']; simp [e1]
              refine ⟨_, rfl, .inl ⟨rfl, _, .inl (.inl hws)⟩, _, rfl, _, rfl, by show 2 ≤ sizeLine; decide, fun t ht => ⟨r, _, _, rfl, rfl, sameNew ht _ _ hws, acc1000, ?_⟩⟩
              have := app_end s1 hr0 hws pw ht (p := p)
              exact ⟨this.1, ⟨_, _, rfl⟩, by rw [es]; exact this.2⟩
    · obtain ⟨s1, ⟨y2, y3, rfl⟩, h⟩ := p
      rw [lv, List.take_length] at h
      exact ⟨_, rfl, q r H' s1 hr0 h⟩
/-! ends -/
theorem endsF_take {ps : List Pc} {i : Nat} {p : Pc} (h : ps[i]? = some p) : endsF 0 (ps.take (i + 1)) = endsF 0 (ps.take i) ++ [long (ps.take i) + plen p] ∧ long (ps.take (i + 1)) = long (ps.take i) + plen p := by
  have e : ps.take (i + 1) = ps.take i ++ [p] := by rw [List.take_succ, h]; rfl
  rw [e, endsF_app]
  simp [endsF, long]
def sp_ends_of : Sp := fun vs H Q _ => ∃ (l : Addr) (ps : List Pc) (n : Nat), vs = [.ref l] ∧ PL H l ps ∧ OK n ps ∧ n ≤ 1000 ∧ ∀ r H', Same H H' → H r = none → H' r = some (.lst ((endsF 0 ps).map fun x => V.int (x : Nat))) → Q (.ref r) H'
theorem c_ends_of (T : Txt K mg C) : C8.Cal P w K mg base 1 "ends_of" sp_ends_of [] := by
  refine calF T.d_ends_of sc_ends_of (fun vs H Q E h => ?_) (fun f cdv A outer s H vs Q E hr h => ?_)
  · obtain ⟨_, _, _, rfl, _⟩ := h; rfl
  · obtain ⟨l, ps, n, rfl, ⟨vs, hl, hp⟩, ok, hn, q⟩ := h
    have lv := hp.len
    have okl := ok.len
    refine ⟨_, (pss_cons (ps_set (i := 1) sc_ends_of.nd rfl (Or.inl rfl) (pe_lst pa_nil))
    (pss_cons (ps_set (i := 2) sc_ends_of.nd rfl (Or.inl rfl) pe_int)
    (pss_cons (ps_for PassesOwn.never rfl (pi_list (pv 0)) (pg_two (K := K) (i := 3) (j := 4) rfl rfl sc_ends_of.nd rfl rfl (Or.inl rfl) (Or.inl rfl))
    (pss_cons (ps_aug (i := 2) sc_ends_of.nd rfl (.inl rfl) (pe_op op_mulZ (pe_callB call_len_str (by rfl) T.m_len (by decide +kernel) (pa_cons (pv 3) pa_nil)) (pv 4)) ip_add)
    (pss_one (ps_expr (pe_bm PySem.F.plainAttrs_list PySem.F.slot_list_append PySem.F.type_list_append mt_append (pv 1) (pa_cons (pv 2) pa_nil))))))
    (pss_one (ps_ret (pv 1)))))), ?_⟩
    refine ⟨by show 0 ≤ sizeLine; omega, fun r hr0 => ?_⟩
    have rl : r ≠ l := fun z => by rw [z, hl] at hr0; cases hr0
    refine ⟨_, rfl, l, rfl, ⟨_, .inl (.inl (sameNew hr0 _ _ hl))⟩, for_list (K := K) (a := l) (xs := vs) (fun i σ H' => Same H H' ∧ (∃ (z : Int) (y2 y3 : Option V), σ = [some (.ref l), some (.ref r), some (.int z), y2, y3] ∧ z = ((long (ps.take i) : Nat) : Int)) ∧ H' r = some (.lst ((endsF 0 (ps.take i)).map fun x => V.int (x : Nat))))
      ⟨sameNew hr0, ⟨0, none, none, rfl, rfl⟩, upd_same⟩ (fun i σ H' _ p => .inl (.inl (p.1 _ _ hl))) (fun i y σ H' hi p => ?_) (fun σ H' p => ?_)⟩
    · obtain ⟨s1, ⟨z, y2, y3, rfl, ez⟩, hws⟩ := p
      obtain ⟨a, p, rfl, hpi, ha⟩ := hp.get hi
      have hwp := ok.word p (List.mem_of_getElem? hpi)
      have htp := ok.times hn (List.mem_of_getElem? hpi)
      have hii := (List.getElem?_eq_some_iff.mp hpi).1
      obtain ⟨e1, e2⟩ := endsF_take hpi
      refine ⟨a, _, rfl, .inl (.inl (s1 _ _ ha)), rfl, _, _, rfl, _, _, rfl, rfl, ?_⟩
      refine ⟨_, rfl, _, rfl, S p.1, rfl, len_line (by omega), _, rfl, p.1.length, p.2, congrArg (fun n : Nat => V.int n) (S_len _), rfl, by have := hwp.1; omega, by omega, _, _, rfl, rfl, ?_⟩
      have e3 : z + ((p.1.length * p.2 : Nat) : Int) = ((long (ps.take (i + 1)) : Nat) : Int) := by rw [ez, e2, Int.natCast_add]; rfl
      refine ⟨_, rfl, .inl ⟨rfl, _, .inl (.inl hws)⟩, _, rfl, r, _, _, rfl, rfl, hws, by rw [List.length_map, endsF_len, List.length_take, sizeLine_eq]; omega, ?_⟩
      refine ⟨same_upd2 hr0 s1, ⟨_, _, _, rfl, e3⟩, ?_⟩
      rw [upd_same, e1, ← e2, List.map_append]
      exact congrArg (fun v => some (HO.lst (_ ++ [V.int v]))) e3
    · obtain ⟨s1, ⟨z, y2, y3, rfl, _⟩, h⟩ := p
      rw [lv, List.take_length] at h
      exact ⟨_, rfl, q r H' s1 hr0 h⟩
/-! a stretch of one piece -/
def sp_stretch_pieces : Sp := fun vs H Q _ => ∃ (z : List Nat) (lo hi : Nat), vs = [.str (S z), .int lo, .int hi] ∧ z ≠ [] ∧ z.length ≤ 1000 ∧ lo ≤ hi ∧ ∀ r H', Same H H' → H r = none → PL H' r (two z lo hi) → Q (.ref r) H'
theorem c_stretch_pieces (T : Txt K mg C) : C8.Cal P w K mg base 2 "stretch_pieces" sp_stretch_pieces [] := by
  refine calF T.d_stretch_pieces sc_stretch_pieces (fun vs H Q E h => ?_) (fun f cdv A outer s H vs Q E hr h => ?_)
  · obtain ⟨_, _, _, rfl, _⟩ := h; rfl
  · obtain ⟨z, lo, hi, rfl, ne, hl, hle, q⟩ := h
    have n0 := List.length_pos_iff.mpr ne
    have rl := rot_len z (lo % z.length)
    refine ⟨_, (pss_cons (ps_set (i := 3) sc_stretch_pieces.nd rfl (Or.inl rfl) (C8.pe_c (c_turned_word T) hr (by decide) (by rfl) (pa_cons (pv 0) (pa_cons (pv 1) pa_nil))))
    (pss_one (ps_ret (pe_lst (pa_cons (pe_tup (pa_cons (pv 3) (pa_cons (pe_op op_fdivZ (pe_op op_sub (pv 2) (pv 1)) (pe_callB call_len_str (by rfl) T.m_len (by decide +kernel) (pa_cons (pv 0) pa_nil))) pa_nil))) (pa_cons (pe_tup (pa_cons (pe_slice C8.sl_txt (pv 3) po_none (po_some (pe_op op_modZ (pe_op op_sub (pv 2) (pv 1)) (pe_callB call_len_str (by rfl) T.m_len (by decide +kernel) (pa_cons (pv 0) pa_nil))))) (pa_cons pe_int pa_nil))) pa_nil)))))), ?_⟩
    refine ⟨_, rfl, _, rfl, z, lo, rfl, hl, ne, ?_⟩
    have d1 : V.int ((hi : Int) - (lo : Int)) = V.int ((hi - lo : Nat) : Int) := congrArg V.int (by omega)
    refine ⟨_, rfl, _, rfl, _, rfl, _, _, rfl, rfl, _, rfl, S z, rfl, len_line hl, hi - lo, z.length, d1, congrArg (fun n : Nat => V.int n) (S_len _), by omega, by omega, by show 2 ≤ sizeLine; decide, fun t1 h1 => ?_⟩
    refine ⟨_, rfl, _, rfl, _, rfl, _, _, rfl, rfl, _, rfl, S z, rfl, len_line hl, hi - lo, z.length, d1, congrArg (fun n : Nat => V.int n) (S_len _), by omega, _, rfl, S (rot z (lo % z.length)), rfl, len_line (by omega), ?_⟩
    refine ⟨by show 2 ≤ sizeLine; decide, fun t2 h2 => ⟨by show 2 ≤ sizeLine; decide, fun r hr0 => ?_⟩⟩
    have hrH : H r = none := Same.free ((sameNew h1).trans (sameNew h2)) hr0
    refine q r _ (((sameNew h1).trans (sameNew h2)).trans (sameNew hr0)) hrH ⟨_, upd_same, .cons ?_ (.one ?_)⟩
    · refine sameNew hr0 _ _ (sameNew h2 _ _ ?_)
      rw [upd_same]
    · refine sameNew hr0 _ _ ?_
      rw [upd_same, SX.slice_to (by omega), Int.toNat_natCast]
      rfl
/-! the stretch of a list of pieces -/
theorem endsF_at : ∀ (ps : List Pc) (s i : Nat) (p : Pc), ps[i]? = some p → (endsF s ps)[i]? = some (s + long (ps.take i) + plen p)
  | [], _, _, _, h => by simp at h
  | q :: r, s, 0, p, h => by
    cases h
    simp [endsF, long]
  | q :: r, s, i + 1, p, h => by
    have := endsF_at r (s + plen q) i p h
    simp [endsF, this, long]
    omega
theorem cutF_app (lo hi : Nat) : ∀ (a b : List Pc) (s : Nat), cutF lo hi s (a ++ b) = cutF lo hi s a ++ cutF lo hi (s + long a) b
  | [], b, s => by simp [cutF, long]
  | p :: r, b, s => by
    rw [List.cons_append, cutF, cutF, cutF_app lo hi r b, List.append_assoc]
    simp [long, Nat.add_assoc]
theorem cutF_take {ps : List Pc} {i lo hi : Nat} {p : Pc} (h : ps[i]? = some p) : cutF lo hi 0 (ps.take (i + 1)) = cutF lo hi 0 (ps.take i) ++ cut1 lo hi (long (ps.take i)) p := by
  have e : ps.take (i + 1) = ps.take i ++ [p] := by rw [List.take_succ, h]; rfl
  rw [e, cutF_app]
  simp [cutF]
theorem cutF_len (lo hi : Nat) : ∀ (a : List Pc) (s : Nat), (cutF lo hi s a).length ≤ 2 * a.length
  | [], _ => by simp [cutF]
  | p :: r, s => by
    have := cutF_len lo hi r (s + plen p)
    have : (cut1 lo hi s p).length ≤ 2 := by unfold cut1 two; split <;> simp
    rw [cutF, List.length_append, List.length_cons]
    omega
theorem mk3 {z : Str} {a b a' b' : Int} (h : a = a') (g : b = b') : [V.str z, V.int a, V.int b] = [V.str z, V.int a', V.int b'] := by rw [h, g]
def sp_stretch_of : Sp := fun vs H Q _ => ∃ (l e : Addr) (ps : List Pc) (n lo hi : Nat), vs = [.ref l, .ref e, .int lo, .int hi] ∧ PL H l ps ∧ H e = some (.lst ((endsF 0 ps).map fun x => V.int (x : Nat))) ∧ OK n ps ∧ n ≤ 1000 ∧ (∀ p ∈ ps, p.1 ≠ []) ∧ lo ≤ hi ∧
  ∀ r H', Same H H' → H r = none → PL H' r (cutF lo hi 0 ps) → Q (.ref r) H'
theorem c_stretch_of (T : Txt K mg C) : C8.Cal P w K mg base 3 "stretch_of" sp_stretch_of [] := by
  refine calF T.d_stretch_of sc_stretch_of (fun vs H Q E h => ?_) (fun f cdv A outer s H vs Q E hr h => ?_)
  · obtain ⟨_, _, _, _, _, _, rfl, _⟩ := h; rfl
  · obtain ⟨l, e, ps, n, lo, hi, rfl, ⟨vs, hl, hp⟩, he, ok, hn, hne, hle, q⟩ := h
    have lv := hp.len
    have okl := ok.len
    refine ⟨_, (pss_cons (ps_set (i := 4) sc_stretch_of.nd rfl (Or.inl rfl) (pe_lst pa_nil))
    (pss_cons (ps_for PassesOwn.never rfl (pi_zipB (K := K) rfl (by rfl) T.m_zip (pa_cons (pv 0) (pa_cons (pv 1) pa_nil))) (pg_tup rfl (pgs_cons (pg_two (K := K) (i := 5) (j := 6) rfl rfl sc_stretch_of.nd rfl rfl (Or.inl rfl) (Or.inl rfl)) (pgs_cons (pg_name (i := 7) sc_stretch_of.nd rfl (Or.inl rfl)) pgs_nil)))
    (pss_cons (ps_set (i := 8) sc_stretch_of.nd rfl (Or.inl rfl) (pe_op op_sub (pv 7) (pe_op op_mulZ (pe_callB call_len_str (by rfl) T.m_len (by decide +kernel) (pa_cons (pv 5) pa_nil)) (pv 6))))
    (pss_one (ps_if (PW.pt (pw_and (pt_cmpR op_lt (pv 8) (pv 3) (nomark _)) (pw_and1 (pt_cmpR op_lt (pv 2) (pv 7) (nomark _)))))
    (pss_one (ps_expr (pe_bm PySem.F.plainAttrs_list PySem.F.slot_list_extend PySem.F.type_list_extend mt_extend (pv 4) (pa_cons (C8.pe_c (c_stretch_pieces T) hr (by decide) (by rfl) (pa_cons (pv 5) (pa_cons (pe_callB (call_max2 rfl) (by rfl) T.m_max (by decide +kernel) (pa_cons (pe_op op_sub (pv 2) (pv 8)) (pa_cons pe_int pa_nil))) (pa_cons (pe_op op_sub (pe_callB (call_min2 rfl) (by rfl) T.m_min (by decide +kernel) (pa_cons (pv 3) (pa_cons (pv 7) pa_nil))) (pv 8)) pa_nil)))) pa_nil))))
    pss_nil))))
    (pss_one (ps_ret (pv 4))))), ?_⟩
    refine ⟨by show 0 ≤ sizeLine; omega, fun r hr0 => ?_⟩
    refine ⟨_, rfl, _, rfl, .L, .L, l, e, vs, _, rfl, .inl (.inl (sameNew hr0 _ _ hl)), .inl (.inl (sameNew hr0 _ _ he)), ?_⟩
    refine for_it (walkB (K := K) (k := .L) (k' := .L) (by rw [List.length_map, endsF_len, lv])) (fun i σ H' => Same H H' ∧ (∃ (y5 y6 y7 y8 : Option V), σ = [some (.ref l), some (.ref e), some (.int lo), some (.int hi), some (.ref r), y5, y6, y7, y8]) ∧ PL H' r (cutF lo hi 0 (ps.take i)))
      ⟨sameNew hr0, ⟨none, none, none, none, rfl⟩, [], upd_same, .nil⟩ (fun i σ H' _ p => ⟨.inl (.inl (p.1 _ _ hl)), .inl (.inl (p.1 _ _ he))⟩) (fun i v σ H3 H4 hi' p yy => ?_) (fun σ H' p => ?_)
    · obtain ⟨s1, ⟨y5, y6, y7, y8, rfl⟩, ws, hws, pw⟩ := p
      obtain ⟨t, x, y, rfl, ht, rfl, hx, hy⟩ := yy
      have hx : vs[i]? = some x := hx
      obtain ⟨a, p, rfl, hpi, ha⟩ := hp.get hx
      have hy : ((endsF 0 ps).map fun x => V.int (x : Nat))[i]? = some y := hy
      rw [List.getElem?_map, endsF_at ps 0 i p hpi] at hy
      cases hy
      have hmem := List.mem_of_getElem? hpi
      have hwp := ok.word p hmem
      have htp := ok.times hn hmem
      have hnep := hne p hmem
      have hii := (List.getElem?_eq_some_iff.mp hpi).1
      have st : Same H3 (upd H3 t (.tup [.ref a, .int ((0 + long (ps.take i) + plen p : Nat) : Int)])) := sameNew ht
      generalize hs : long (ps.take i) = s0
      have hcl := cutF_len lo hi (ps.take i) 0
      rw [List.length_take] at hcl
      have lw := pw.len
      rw [show cutF lo hi 0 (ps.take (i + 1)) = _ from cutF_take hpi, hs]
      rw [hs] at st
      have e0 : V.int ((0 + s0 + plen p : Nat) : Int) = V.int ((0 + s0 + plen p : Nat) : Int) := rfl
      have pe : plen p = p.1.length * p.2 := rfl
      have n0 := List.length_pos_iff.mpr hnep
      refine ⟨t, _, rfl, .inl (.inl upd_same), rfl, _, _, rfl, a, _, rfl, .inl (.inl (st _ _ (s1 _ _ ha))), rfl, _, _, rfl, _, _, rfl, rfl, _, _, rfl, rfl, ?_⟩
      refine ⟨_, rfl, _, rfl, S p.1, rfl, len_line (by omega), _, rfl, p.1.length, p.2, congrArg (fun n : Nat => V.int n) (S_len _), rfl, by omega, by omega, _, _, rfl, rfl, ?_⟩
      have ss := s1.trans st
      have hws2 := st _ _ hws
      have pw2 := pw.same st
      have same0 : cut1 lo hi s0 p = [] → Same H (upd H3 t (.tup [.ref a, .int ((0 + s0 + plen p : Nat) : Int)])) ∧ PL (upd H3 t (.tup [.ref a, .int ((0 + s0 + plen p : Nat) : Int)])) r (cutF lo hi 0 (ps.take i) ++ cut1 lo hi s0 p) := fun z => by
        rw [z, List.append_nil]
        exact ⟨ss, ws, hws2, pw2⟩
      refine ⟨_, rfl, _, rfl, _, _, rfl, rfl, _, rfl, ite2 (fun c1 => ?_) (fun c1 => ?_)⟩
      · have c1' : s0 < hi := by
          have := of_decide_eq_true c1
          omega
        refine ⟨_, rfl, _, rfl, _, _, rfl, rfl, _, rfl, ite2 (fun c2 => ?_) (fun c2 => ?_)⟩
        · have c2' : lo < s0 + plen p := by
            have := of_decide_eq_true c2
            omega
          have ec : cut1 lo hi s0 p = two p.1 (lo - s0) (min hi (s0 + plen p) - s0) := by unfold cut1; rw [if_pos ⟨c1', c2'⟩]
          refine ⟨_, rfl, .inl ⟨rfl, _, .inl (.inl hws2)⟩, _, rfl, _, rfl, _, rfl, _, _, rfl, rfl, _, _, rfl, _, rfl, _, rfl, _, _, rfl, _, rfl, _, _, rfl, rfl, p.1, lo - s0, min hi (s0 + plen p) - s0, mk3 ?_ ?_, hnep, by omega, by omega, fun r2 H2 s2 n2 P2 => ?_⟩
          · split <;> omega
          · split <;> omega
          · obtain ⟨us, hu, pu⟩ := P2
            have tl : (two p.1 (lo - s0) (min hi (s0 + plen p) - s0)).length = 2 := rfl
            have lu := pu.len
            refine ⟨r, r2, ws, us, rfl, rfl, s2 _ _ hws2, hu, by rw [sizeLine_eq]; omega, ?_⟩
            refine ⟨same_upd2 hr0 (ss.trans s2), ⟨_, _, _, _, rfl⟩, ?_⟩
            rw [ec]
            exact ⟨_, upd_same, ((pw2.same s2).upd (s2 _ _ hws2)).app (pu.upd (s2 _ _ hws2))⟩
        · have ec : cut1 lo hi s0 p = [] := by
            unfold cut1
            rw [if_neg (fun z => c2 (decide_eq_true (by omega)))]
          have := same0 ec
          exact ⟨this.1, ⟨_, _, _, _, rfl⟩, this.2⟩
      · have ec : cut1 lo hi s0 p = [] := by
          unfold cut1
          rw [if_neg (fun z => c1 (decide_eq_true (by omega)))]
        have := same0 ec
        exact ⟨this.1, ⟨_, _, _, _, rfl⟩, this.2⟩
    · obtain ⟨s1, ⟨y5, y6, y7, y8, rfl⟩, h⟩ := p
      rw [lv, List.take_length] at h
      exact ⟨_, rfl, q r H' s1 hr0 h⟩
end
end K04K

set_option Elab.async false
set_option linter.all false
set_option maxRecDepth 100000
set_option maxHeartbeats 2000000
namespace K04K
open K04 PySem PySem.Spec PyProof.Rows L2 CK SX KM
/-! ### the object -/
def KF (l e : Addr) : List (Str × V) := [("_pieces", .ref l), ("_ends", .ref e)]
theorem pe_ne : ¬ (("_pieces" : Str) = "_ends") := by decide +kernel
theorem ep_ne : ¬ (("_ends" : Str) = "_pieces") := by decide +kernel
theorem put1 (l : Addr) : putF "_pieces" (V.ref l) [] = ([("_pieces", V.ref l)] : List (Str × V)) := rfl
theorem put2 (l e : Addr) : putF "_ends" (V.ref e) ([("_pieces", V.ref l)] : List (Str × V)) = KF l e := by
  show (if ("_pieces" : Str) = "_ends" then [(("_pieces" : Str), V.ref e)] else (("_pieces" : Str), V.ref l) :: putF "_ends" (V.ref e) []) = _
  rw [if_neg pe_ne]
  rfl
theorem put3 (l l' e : Addr) : putF "_pieces" (V.ref l') (KF l e) = KF l' e := by
  show (if ("_pieces" : Str) = "_pieces" then (("_pieces" : Str), V.ref l') :: [(("_ends" : Str), V.ref e)] else _) = _
  rw [if_pos rfl]
  rfl
theorem put4 (l e e' : Addr) : putF "_ends" (V.ref e') (KF l e) = KF l e' := by
  show (if ("_pieces" : Str) = "_ends" then _ else (("_pieces" : Str), V.ref l) :: (if ("_ends" : Str) = "_ends" then (("_ends" : Str), V.ref e') :: [] else _)) = _
  rw [if_neg pe_ne, if_pos rfl]
  rfl
theorem kf_p (l e : Addr) : (KF l e).lookup ("_pieces" : Str) = some (V.ref l) := by
  rw [← put2, lookup_putF, if_neg pe_ne, ← put1, lookup_putF, if_pos rfl]
theorem kf_e (l e : Addr) : (KF l e).lookup ("_ends" : Str) = some (V.ref e) := by
  rw [← put2, lookup_putF, if_pos rfl]
theorem k1_p (l : Addr) : ([("_pieces", V.ref l)] : List (Str × V)).lookup ("_pieces" : Str) = some (V.ref l) := by
  rw [← put1, lookup_putF, if_pos rfl]
theorem kf_no (l e : Addr) {m : Str} (h1 : ¬ m = "_pieces") (h2 : ¬ m = "_ends") : (KF l e).lookup m = none := by
  rw [← put2, lookup_putF, if_neg h2, ← put1, lookup_putF, if_neg h1]
  rfl
def EL (H : Hp) (e : Addr) (ps : List Pc) : Prop := H e = some (.lst ((endsF 0 ps).map fun x => V.int (x : Nat)))
/-- a kept word at p, of the class at C -/
def KW (C : Addr) (H : Hp) (p : Addr) (ps : List Pc) : Prop := ∃ dx l e, H p = some (.ins C dx (KF l e)) ∧ PL H l ps ∧ EL H e ps
theorem KW.same {C : Addr} {H H' : Hp} {p : Addr} {ps : List Pc} (h : KW C H p ps) (s : Same H H') : KW C H' p ps := by
  obtain ⟨dx, l, e, h1, h2, h3⟩ := h
  exact ⟨dx, l, e, s _ _ h1, h2.same s, s _ _ h3⟩
/-- the same, its list of ends is none of those that stood in H0 -/
def KWf (C : Addr) (H0 H : Hp) (p : Addr) (ps : List Pc) : Prop := ∃ dx l e, H p = some (.ins C dx (KF l e)) ∧ PL H l ps ∧ EL H e ps ∧ H0 e = none
theorem KWf.kw {C : Addr} {H0 H : Hp} {p : Addr} {ps : List Pc} (h : KWf C H0 H p ps) : KW C H p ps := by
  obtain ⟨dx, l, e, h1, h2, h3, _⟩ := h
  exact ⟨dx, l, e, h1, h2, h3⟩
theorem none_of {H H' : Hp} {e : Addr} (s : ∀ o, H e = some o → ∃ o', H' e = some o') (h : H' e = none) : H e = none := by
  cases q : H e with
  | none => rfl
  | some o =>
    obtain ⟨o', h2⟩ := s o q
    rw [h] at h2
    cases h2
theorem KWf.pre {C : Addr} {H0 H1 H : Hp} {p : Addr} {ps : List Pc} (h : KWf C H1 H p ps) (s : Same H0 H1) : KWf C H0 H p ps := by
  obtain ⟨dx, l, e, h1, h2, h3, h4⟩ := h
  exact ⟨dx, l, e, h1, h2, h3, none_of (fun o h => ⟨o, s _ _ h⟩) h4⟩
theorem PL.ins {H : Hp} {l p C dx : Addr} {fs gs : List (Str × V)} {ps : List Pc} (h : PL H l ps) (hp : H p = some (.ins C dx fs)) : PL (upd H p (.ins C dx gs)) l ps := by
  obtain ⟨vs, e, q⟩ := h
  refine ⟨vs, ?_, q.mono fun a xs ha => ?_⟩
  · rw [upd_ne (fun z => by rw [z, hp] at e; cases e)]
    exact e
  · rw [upd_ne (fun z => by rw [z, hp] at ha; cases ha)]
    exact ha
section
variable {P : Program} {w : World} {K : PySem.W.Frag} {mg : Str → Option Value} {base : Heap} {C : Addr}
def sp_init (C : Addr) : Sp := fun vs H Q _ => ∃ (p dx l : Addr) (ps : List Pc) (n : Nat), vs = [.ref p, .ref l] ∧ H p = some (.ins C dx []) ∧ PL H l ps ∧ OK n ps ∧ n ≤ 1000 ∧ ∀ H', SameX p H H' → KWf C H H' p (tidy ps) → Q .non H'
theorem n_KeptWord (T : Txt K mg C) : C8.Mak P w K mg base 5 "KeptWord" C (sp_init C) [] := by
  refine makF T.k_KeptWord T.d_KeptWord___init__ sc_KeptWord___init__ (fun vs H Q E h => ?_) (fun f cdv A outer s H vs Q E hr h => ?_)
  · obtain ⟨_, _, _, _, _, rfl, _⟩ := h; rfl
  · obtain ⟨p, dx, l, ps, n, rfl, hp, hl, ok, hn, q⟩ := h
    have cl := T.k_KeptWord.ins.cl
    have okl := ok.len
    refine ⟨_, (pss_cons (ps_expr (C8.pe_c (c_need_kept_pieces T) hr (by decide) (by rfl) (pa_cons (pv 1) pa_nil)))
    (pss_cons (ps_fld (pv 0) (C8.pe_c (c_put_together T) hr (by decide) (by rfl) (pa_cons (pv 1) pa_nil)) rfl)
    (pss_one (ps_fld (pv 0) (C8.pe_c (c_ends_of T) hr (by decide) (by rfl) (pa_cons (pe_fld (pv 0) rfl) pa_nil)) rfl)))), ?_⟩
    refine ⟨_, rfl, l, ps, n, rfl, hl, ok, hn, fun H1 s1 => ?_⟩
    refine ⟨_, rfl, l, ps, rfl, hl.same s1, by omega, fun x hx => by have := (ok.word x hx).1; omega, fun r H2 s2 n2 P2 => ?_⟩
    have hp2 := s2 _ _ (s1 _ _ hp)
    refine ⟨_, rfl, p, C, dx, _, rfl, hp2, cl, T.f_pieces, by show 0 < 1000; decide, ?_⟩
    have P3 : PL (upd H2 p (.ins C dx [("_pieces", .ref r)])) r (tidy ps) := P2.ins hp2
    refine ⟨_, rfl, p, C, dx, _, _, rfl, upd_same, cl, T.f_pieces, k1_p r, r, tidy ps, n, rfl, P3, ok.tidy, hn, fun e H4 s4 n4 E4 => ?_⟩
    have hp4 : H4 p = some (.ins C dx [("_pieces", .ref r)]) := s4 _ _ upd_same
    refine ⟨_, rfl, p, C, dx, _, rfl, hp4, cl, T.f_ends, by show 1 < 1000; decide, ?_⟩
    refine q _ (fun b o hb h => ?_) ⟨dx, r, e, by rw [put2]; exact upd_same, (P3.same s4).ins hp4, ?_, none_of (fun o h => ?_) n4⟩
    · rw [upd_ne hb]
      refine s4 _ _ ?_
      rw [upd_ne hb]
      exact s2 _ _ (s1 _ _ h)
    · unfold EL
      rw [upd_ne (fun z => by rw [z, hp4] at E4; cases E4)]
      exact E4
    · by_cases z : e = p
      · exact ⟨_, by rw [z]; exact upd_same⟩
      · exact ⟨o, by rw [upd_ne z]; exact s2 _ _ (s1 _ _ h)⟩
def sp_pieces (C : Addr) : Sp := fun vs H Q _ => ∃ (p : Addr) (ps : List Pc), vs = [.ref p] ∧ KW C H p ps ∧ ∀ l H', Same H H' → H l = none → PL H' l ps → Q (.ref l) H'
theorem m_KeptWord_pieces (T : Txt K mg C) : C8.Met P w K mg base 1 C "pieces" (sp_pieces C) [] := by
  refine metF T.k_KeptWord T.d_KeptWord_pieces sc_KeptWord_pieces (fun vs H Q E h => ?_) (fun f cdv A outer s H vs Q E hr h => ?_)
  · obtain ⟨_, _, rfl, _⟩ := h; rfl
  · obtain ⟨p, ps, rfl, ⟨dx, l, e, hp, ⟨vs, hl, hv⟩, he⟩, q⟩ := h
    refine ⟨_, (pss_one (ps_ret (pe_callTy call_list_of (by rfl) T.m_list (by decide +kernel) (pa_cons (pe_fld (pv 0) rfl) pa_nil)))), ?_⟩
    exact ⟨_, rfl, p, C, dx, _, _, rfl, hp, T.k_KeptWord.ins.cl, T.f_pieces, kf_p l e, l, vs, rfl, .inl (.inl (.inl hl)), fun r hr0 => q r _ (sameNew hr0) hr0 ⟨vs, upd_same, hv.same (sameNew hr0)⟩⟩
theorem long_take {ps : List Pc} {i : Nat} {p : Pc} (h : ps[i]? = some p) : long (ps.take (i + 1)) = long (ps.take i) + plen p := (endsF_take h).2
theorem ends_at {ps : List Pc} {i : Nat} (h : i < ps.length) : (endsF 0 ps)[i]? = some (long (ps.take (i + 1))) := by
  have hp := List.getElem?_eq_getElem h
  rw [endsF_at ps 0 i _ hp, long_take hp, Nat.zero_add]
theorem endsV_at {ps : List Pc} {i : Nat} (h : i < ps.length) : ((endsF 0 ps).map fun x => V.int (x : Nat))[i]? = some (V.int (long (ps.take (i + 1)) : Nat)) := by
  rw [List.getElem?_map, ends_at h]
  rfl
theorem long_mono {ps : List Pc} : ∀ {i j : Nat}, i ≤ j → long (ps.take i) ≤ long (ps.take j) := by
  intro i j h
  have e : ps.take j = ps.take i ++ (ps.take j).drop i := by
    have := List.take_append_drop i (ps.take j)
    rw [List.take_take, Nat.min_eq_left h] at this
    exact this.symm
  rw [e]
  simp [long]
def sp_length (C : Addr) : Sp := fun vs H Q _ => ∃ (p : Addr) (ps : List Pc), vs = [.ref p] ∧ KW C H p ps ∧ Q (.int (long ps : Nat)) H
theorem m_KeptWord_length (T : Txt K mg C) : C8.Met P w K mg base 1 C "length" (sp_length C) [] := by
  refine metF T.k_KeptWord T.d_KeptWord_length sc_KeptWord_length (fun vs H Q E h => ?_) (fun f cdv A outer s H vs Q E hr h => ?_)
  · obtain ⟨_, _, rfl, _⟩ := h; rfl
  · obtain ⟨p, ps, rfl, ⟨dx, l, e, hp, hl, he⟩, q⟩ := h
    have cl := T.k_KeptWord.ins.cl
    refine ⟨_, (pss_one (ps_ret (pe_ifExp (pt_truth (pe_fld (pv 0) rfl) (by intro _; rfl)) (pe_ix ix_list (pe_fld (pv 0) rfl) (pe_un un_neg pe_int) (fun _ _ => rfl)) pe_int))), ?_⟩
    refine ⟨_, rfl, p, C, dx, _, _, rfl, hp, cl, T.f_ends, kf_e l e, _, .inl ⟨_, .inl (.inl he), rfl⟩, ?_⟩
    by_cases z : ps = []
    · subst z
      exact iteF q
    · have n0 := List.length_pos_iff.mpr z
      rw [show (!((endsF 0 ps).map fun x => V.int (x : Nat)).isEmpty) = true by
        cases ps with
        | nil => exact absurd rfl z
        | cons _ _ => rfl]
      refine iteT ⟨_, rfl, p, C, dx, _, _, rfl, hp, cl, T.f_ends, kf_e l e, 1, rfl, e, _, -1, _, rfl, rfl, .inl (.inl he), last_at ?_, q⟩
      rw [List.length_map, endsF_len, endsV_at (by omega), show ps.length - 1 + 1 = ps.length by omega, List.take_length]
end
end K04K

set_option Elab.async false
set_option linter.all false
set_option maxRecDepth 100000
set_option maxHeartbeats 2000000
namespace K04K
open K04 PySem PySem.Spec PyProof.Rows L2 CK SX KM
/-! ### letters -/
/-- piece k is the one in which letter i lies -/
def In1 (ps : List Pc) (i k : Nat) : Prop := k < ps.length ∧ i < long (ps.take (k + 1)) ∧ long (ps.take k) ≤ i
section
variable {P : Program} {w : World} {K : PySem.W.Frag} {mg : Str → Option Value} {base : Heap} {C : Addr}
def sp_piece_index : Sp := fun vs H Q _ => ∃ (e : Addr) (ps : List Pc) (i : Nat), vs = [.ref e, .int i] ∧ EL H e ps ∧ i < long ps ∧ ps.length ≤ 1000 ∧ ∀ k : Nat, In1 ps i k → Q (.int k) H
theorem c_piece_index (T : Txt K mg C) : C8.Cal P w K mg base 1 "piece_index" sp_piece_index [] := by
  refine calF T.d_piece_index sc_piece_index (fun vs H Q E h => ?_) (fun f cdv A outer s H vs Q E hr h => ?_)
  · obtain ⟨_, _, _, rfl, _⟩ := h; rfl
  · obtain ⟨e, ps, i, rfl, he, hi, hlen, q⟩ := h
    have n0 : 0 < ps.length := by
      cases ps with
      | nil => simp [long] at hi
      | cons _ _ => simp
    refine ⟨_, (pss_cons (ps_par (i := 2) (j := 3) (by rfl) sc_piece_index.nd rfl rfl (by decide) rfl rfl (pa_cons pe_int (pa_cons (pe_op op_sub (pe_callB call_len_seq (by rfl) T.m_len (by decide +kernel) (pa_cons (pv 0) pa_nil)) pe_int) pa_nil)) (by rfl))
    (pss_cons (ps_while PassesOwn.never (pt_cmpR op_lt (pv 2) (pv 3) (nomark _))
    (pss_cons (ps_set (i := 4) sc_piece_index.nd rfl (Or.inl rfl) (pe_op op_fdivZ (pe_op op_add (pv 2) (pv 3)) pe_int))
    (pss_one (ps_if (pt_cmpR op_gt (pe_ix ix_list (pv 0) (pv 4) (fun _ _ => rfl)) (pv 1) (nomark _))
    (pss_one (ps_set (i := 3) sc_piece_index.nd rfl (Or.inl rfl) (pv 4)))
    (pss_one (ps_set (i := 2) sc_piece_index.nd rfl (Or.inl rfl) (pe_op op_add (pv 4) pe_int)))))))
    (pss_one (ps_ret (pv 2))))), ?_⟩
    refine ⟨_, rfl, e, _, rfl, .inl (.inl (.inl he)), _, _, rfl, rfl, _, _, rfl, ?_⟩
    refine while_by (fun σ H' => H' = H ∧ ∃ (lo hi : Nat) (zl zh : Int) (y : Option V), σ = [some (.ref e), some (.int i), some (.int zl), some (.int zh), y] ∧ zl = lo ∧ zh = hi ∧ lo ≤ hi ∧ hi < ps.length ∧ i < long (ps.take (hi + 1)) ∧ long (ps.take lo) ≤ i)
      (fun σ _ => match σ with | [_, _, some (.int zl), some (.int zh), _] => (zh - zl).toNat | _ => 0) ?_ (fun σ H' p => ?_) ?_
    · refine ⟨rfl, 0, ps.length - 1, _, _, none, rfl, rfl, ?_, Nat.zero_le _, by omega, ?_, by simp [long]⟩
      · rw [List.length_map, endsF_len]
        omega
      · rw [show ps.length - 1 + 1 = ps.length by omega, List.take_length]
        exact hi
    · obtain ⟨rfl, lo, hh, zl, zh, y, rfl, rfl, rfl, hle, hlt, h1, h2⟩ := p
      refine ⟨_, rfl, _, rfl, _, _, rfl, rfl, _, rfl, ite2 (fun c => ?_) (fun c => ?_)⟩
      · have c' : lo < hh := by
          have := of_decide_eq_true c
          omega
        refine ⟨_, rfl, _, rfl, _, _, rfl, rfl, lo + hh, 2, congrArg V.int (by omega), rfl, by decide, by decide, ?_⟩
        have m1 : lo ≤ (lo + hh) / 2 := by omega
        have m2 : (lo + hh) / 2 < hh := by omega
        generalize hm : (lo + hh) / 2 = m at m1 m2
        refine ⟨_, rfl, _, rfl, e, _, _, _, rfl, rfl, .inl (.inl he), atI_nat (j := m) (endsV_at (ps := ps) (i := m) (by omega)), _, rfl, _, _, rfl, rfl, _, rfl, ite2 (fun d => ?_) (fun d => ?_)⟩
        · have d' : i < long (ps.take (m + 1)) := by
            have := of_decide_eq_true d
            omega
          refine ⟨_, rfl, ⟨rfl, lo, m, _, _, _, rfl, rfl, rfl, m1, by omega, by omega, h2⟩, ?_⟩
          show (((m : Nat) : Int) - (lo : Int)).toNat < ((hh : Int) - (lo : Int)).toNat
          omega
        · have d' : ¬ (i < long (ps.take (m + 1))) := fun z => d (decide_eq_true (by omega))
          refine ⟨_, rfl, _, _, rfl, rfl, ⟨rfl, m + 1, hh, _, _, _, rfl, rfl, rfl, by omega, hlt, h1, by omega⟩, ?_⟩
          show ((hh : Int) - (((m : Nat) : Int) + 1)).toNat < ((hh : Int) - (lo : Int)).toNat
          omega
      · have c' : lo = hh := by
          have : ¬ (lo : Int) < hh := fun z => c (decide_eq_true z)
          omega
        subst c'
        exact ⟨_, rfl, q lo ⟨hlt, h1, h2⟩⟩
    · intro σ H' Q1 Q2 hq h
      obtain ⟨a, ha, b, hb, x, y, e1, e2, k, e3, h⟩ := h
      exact ⟨a, ha, b, hb, x, y, e1, e2, k, e3, hq _ _ h⟩
def sp_letter (C : Addr) : Sp := fun vs H Q _ => ∃ (p : Addr) (ps : List Pc) (n i : Nat) (c : Nat), vs = [.ref p, .int i] ∧ KW C H p ps ∧ OK n ps ∧ n ≤ 1000 ∧ (wr ps)[i]? = some c ∧ Q (.str (S [c])) H
theorem m_KeptWord_letter (T : Txt K mg C) : C8.Met P w K mg base 4 C "letter" (sp_letter C) [] := by
  refine metF T.k_KeptWord T.d_KeptWord_letter sc_KeptWord_letter (fun vs H Q E h => ?_) (fun f cdv A outer s H vs Q E hr h => ?_)
  · obtain ⟨_, _, _, _, _, rfl, _⟩ := h; rfl
  · obtain ⟨p, ps, n, i, c, rfl, kw, ok, hn, hc, q⟩ := h
    obtain ⟨dx, l, e, hp, ⟨vs, hl, hv⟩, he⟩ := id kw
    have cl := T.k_KeptWord.ins.cl
    have okl := ok.len
    have hi : i < long ps := by
      have := (List.getElem?_eq_some_iff.mp hc).1
      rw [wr_len] at this
      exact this
    refine ⟨_, (pss_cons (ps_expr (C8.pe_c (c_need_within T) hr (by decide) (by rfl) (pa_cons (pv 1) (pa_cons pe_int (pa_cons (pe_op op_sub (C8.pe_mt0 (m_KeptWord_length T) hr (by decide) (pv 0)) pe_int) pa_nil)))))
    (pss_cons (ps_set (i := 2) sc_KeptWord_letter.nd rfl (Or.inl rfl) (C8.pe_c (c_piece_index T) hr (by decide) (by rfl) (pa_cons (pe_fld (pv 0) rfl) (pa_cons (pv 1) pa_nil))))
    (pss_cons (ps_asg (pe_ix ix_list (pe_fld (pv 0) rfl) (pv 2) (fun _ _ => rfl)) (pg_two (K := K) (i := 3) (j := 4) rfl rfl sc_KeptWord_letter.nd rfl rfl (Or.inl rfl) (Or.inl rfl)))
    (pss_one (ps_ret (pe_ix ix_str (pv 3) (pe_op op_modZ (pe_op op_add (pe_op op_sub (pv 1) (pe_ix ix_list (pe_fld (pv 0) rfl) (pv 2) (fun _ _ => rfl))) (pe_op op_mulZ (pe_callB call_len_str (by rfl) T.m_len (by decide +kernel) (pa_cons (pv 3) pa_nil)) (pv 4))) (pe_callB call_len_str (by rfl) T.m_len (by decide +kernel) (pa_cons (pv 3) pa_nil))) (fun _ _ => rfl))))))), ?_⟩
    refine ⟨_, rfl, _, rfl, p, dx, _, rfl, hp, kf_no l e (by decide +kernel) (by decide +kernel), p, ps, rfl, kw, _, _, rfl, rfl, i, 0, _, rfl, by omega, by omega, ?_⟩
    refine ⟨_, rfl, p, C, dx, _, _, rfl, hp, cl, T.f_ends, kf_e l e, _, rfl, e, ps, i, rfl, he, hi, by omega, fun k hk => ?_⟩
    obtain ⟨k1, k2, k3⟩ := hk
    have hpk := List.getElem?_eq_getElem k1
    generalize ps[k] = pc at hpk
    obtain ⟨a, hva, ha⟩ := hv.at hpk
    have hw := ok.word pc (List.mem_of_getElem? hpk)
    have ht := ok.times hn (List.mem_of_getElem? hpk)
    have lt := long_take hpk
    have la := let_at (s := 0) hpk (ends_at k1) k2 (by omega) (by omega)
    rw [hc] at la
    obtain ⟨la, ne⟩ := la
    have n0 := List.length_pos_iff.mpr ne
    refine ⟨_, rfl, p, C, dx, _, _, rfl, hp, cl, T.f_pieces, kf_p l e, _, rfl, l, _, _, _, rfl, rfl, .inl (.inl hl), atI_nat (j := k) hva, a, _, rfl, .inl (.inl ha), rfl, _, _, rfl, _, _, rfl, rfl, ?_⟩
    have pe : plen pc = pc.1.length * pc.2 := rfl
    refine ⟨_, rfl, _, rfl, _, rfl, p, C, dx, _, _, rfl, hp, cl, T.f_ends, kf_e l e, _, rfl, e, _, _, _, rfl, rfl, .inl (.inl he), atI_nat (j := k) (endsV_at k1), _, _, rfl, rfl, _, rfl, S pc.1, rfl, len_line (by omega), _, rfl, pc.1.length, pc.2, congrArg (fun n : Nat => V.int n) (S_len _), rfl, by omega, by omega, ?_⟩
    refine ⟨_, _, rfl, rfl, _, rfl, S pc.1, rfl, len_line (by omega), i - (long (ps.take (k + 1)) - plen pc), pc.1.length, congrArg V.int (by omega), congrArg (fun n : Nat => V.int n) (S_len _), by omega, ?_⟩
    have ei : i - (long (ps.take (k + 1)) - plen pc) = i - (long (ps.take (k + 1)) - plen pc) := rfl
    exact ⟨_, _, c, rfl, rfl, len_line (by omega), atI_nat (xs := pc.1) la.symm, q⟩
end
end K04K

set_option Elab.async false
set_option linter.all false
set_option maxRecDepth 100000
set_option maxHeartbeats 4000000
namespace K04K
open K04 PySem PySem.Spec PyProof.Rows L2 CK SX KM
theorem stretch_tailN {u : List Nat} (h : u ≠ []) {r n : Nat} (hn : n ≤ r) (k : Nat) (hk : (u.length - r % u.length) % u.length + n ≤ u.length * k) :
    ((List.replicate k u).flatten.drop ((u.length - r % u.length) % u.length)).take n = (NM.tailE u r).take n := by
  have n0 := List.length_pos_iff.mpr h
  have l : (List.replicate k u).flatten.length = u.length * k := WM.pw_len u k
  refine List.ext_getElem? fun i => ?_
  by_cases hi : i < n
  · rw [List.getElem?_take_of_lt hi, List.getElem?_drop, List.getElem?_take_of_lt hi, NM.tailE_get h (by omega)]
    have := WM.pw_get h k ((u.length - r % u.length) % u.length + i) (by omega)
    unfold WM.pw at this
    rw [this]
    congr 1
    rw [Nat.mod_add_mod, Nat.add_comm]
  · rw [List.getElem?_eq_none (by rw [List.length_take]; omega), List.getElem?_eq_none (by rw [List.length_take]; omega)]
section
variable {P : Program} {w : World} {K : PySem.W.Frag} {mg : Str → Option Value} {base : Heap} {C : Addr}
def sp_stretchN : Sp := fun vs H Q _ => ∃ (u : List Nat) (r n : Nat), vs = [.str (S u), .int (-(r : Int)), .int n] ∧ u ≠ [] ∧ u.length ≤ 100000 ∧ n ≤ 100000 ∧ n ≤ r ∧ r < 2 ^ 400 ∧ Q (.str (S ((NM.tailE u r).take n))) H
theorem c_stretch (T : Txt K mg C) : C8.Cal P w K mg base 1 "stretch" sp_stretchN [] := by
  refine calF T.d_stretch sc_stretch (fun vs H Q E h => ?_) (fun f cdv A outer s H vs Q E hr h => ?_)
  · obtain ⟨_, _, _, rfl, _⟩ := h; rfl
  · obtain ⟨u, r, n, rfl, ne, hu, hn, hnr, hr4, q⟩ := h
    have n0 := List.length_pos_iff.mpr ne
    refine ⟨_, (pss_cons (ps_set (i := 3) sc_stretch.nd rfl (Or.inl rfl) (pe_op op_modN (pv 1) (pe_callB call_len_str (by rfl) T.m_len (by decide +kernel) (pa_cons (pv 0) pa_nil))))
    (pss_one (ps_ret (pe_slice C8.sl_txt (pe_op op_repM (pv 0) (pe_op op_add (pe_op op_fdivZ (pe_op op_add (pv 3) (pv 2)) (pe_callB call_len_str (by rfl) T.m_len (by decide +kernel) (pa_cons (pv 0) pa_nil))) pe_int)) (po_some (pv 3)) (po_some (pe_op op_add (pv 3) (pv 2))))))), ?_⟩
    have hm := fmod_neg r n0
    generalize ha : (u.length - r % u.length) % u.length = a at hm
    have alt : a < u.length := by rw [← ha]; exact Nat.mod_lt _ n0
    refine ⟨_, rfl, _, rfl, S u, rfl, K04.len_line (by omega), -(r : Int), u.length, rfl, congrArg (fun n : Nat => V.int n) (S_len u), by omega, ?_⟩
    have hdm := Nat.div_add_mod (a + n) u.length
    have hml := Nat.mod_lt (a + n) n0
    have dl : (a + n) / u.length ≤ a + n := Nat.div_le_self _ _
    refine ⟨_, rfl, _, rfl, _, rfl, a, n, congrArg V.int hm, rfl, _, rfl, S u, rfl, K04.len_line (by omega), a + n, u.length, congrArg V.int (by omega), congrArg (fun n : Nat => V.int n) (S_len u), by omega, by omega, _, _, rfl, rfl, u, (a + n) / u.length + 1, rfl, congrArg V.int (by omega), by omega, by omega, ?_, ?_⟩
    · rw [Nat.add_mul, Nat.one_mul, Nat.mul_comm]
      omega
    · have l : (List.replicate ((a + n) / u.length + 1) u).flatten.length = u.length * ((a + n) / u.length + 1) := WM.pw_len u _
      have hle : a + n ≤ u.length * ((a + n) / u.length + 1) := by rw [Nat.mul_succ]; omega
      refine ⟨_, rfl, a, congrArg V.int hm, _, rfl, _, rfl, a, n, congrArg V.int hm, rfl, ((a + n : Nat) : Int), congrArg V.int (by omega), S _, rfl, ?_, ?_⟩
      · rw [S_len, l, Nat.mul_succ, sizeLine_eq]
        omega
      · rw [slice_mid (by omega) (by rw [l]; exact hle), show a + n - a = n by omega, ← ha, stretch_tailN ne hnr _ (by rw [ha]; exact hle)]
        exact q
def sp_need_kept (C : Addr) : Sp := fun vs H Q _ => ∃ (p : Addr) (ps : List Pc), vs = [.ref p] ∧ KW C H p ps ∧ Q .non H
theorem c_need_kept (T : Txt K mg C) : C8.Cal P w K mg base 1 "need_kept" (sp_need_kept C) [] := by
  refine calF T.d_need_kept sc_need_kept (fun vs H Q E h => ?_) (fun f cdv A outer s H vs Q E hr h => ?_)
  · obtain ⟨_, _, rfl, _⟩ := h; rfl
  · obtain ⟨p, ps, rfl, ⟨dx, l, e, hp, hl, he⟩, q⟩ := h
    refine ⟨_, (pss_one (ps_if (pt_not (pt_val (pe_callB (C8.call_isC T.k_KeptWord.ins) (by rfl) T.m_isinstance (by decide +kernel) (pa_cons (pv 0) (pa_cons (C8.pe_gc (v := .ref C) (by rfl) ⟨_, T.k_KeptWord.mgC, rfl⟩) pa_nil)))))
    (pss_one ps_never)
    pss_nil)), ?_⟩
    exact ⟨_, rfl, p, dx, _, rfl, hp, _, rfl, iteF q⟩

/-- numbers of letters -/
def NatL (H : Hp) (e : Addr) (xs : List Nat) : Prop := H e = some (.lst (xs.map fun n : Nat => V.int (n : Nat)))
def sp_sizes : Sp := fun vs H Q _ => ∃ (l : Addr) (ps : List Pc) (n : Nat), vs = [.ref l] ∧ PL H l ps ∧ OK n ps ∧ n ≤ 1000 ∧ ∀ D H', Same H H' → NatL H' D (ps.map plen) → Q (.ref D) H'
theorem c_sizes_of (T : Txt K mg C) : C8.Cal P w K mg base 1 "sizes_of" sp_sizes [] := by
  refine calF T.d_sizes_of sc_sizes_of (fun vs H Q E h => ?_) (fun f cdv A outer s H vs Q E hr h => ?_)
  · obtain ⟨_, _, _, rfl, _⟩ := h; rfl
  · obtain ⟨l, ps, n, rfl, ⟨vs, hl, hp⟩, ok, hn, q⟩ := h
    have len := hp.len
    have okl := ok.len
    refine ⟨_, (pss_one (ps_ret (pe_lc (own := [("word", 1), ("times", 2)]) (by rfl) sc_sizes_of.nd (pi_list (pv 0)) (blkOk_by (N := ["pieces", "word", "times"]) (sc := C8.fnScope (topS 33)) (own := [("word", 1), ("times", 2)]) (by decide +kernel)) (fun _ _ _ _ _ => (pg_two (K := K) (i := 1) (j := 2) rfl rfl sc_sizes_of.nd rfl rfl (Or.inl rfl) (Or.inl rfl))) (fun _ _ _ _ _ => pts_nil) (fun _ _ _ _ _ => (pe_op op_mulW (pe_callB call_len_str (by rfl) T.m_len (by decide +kernel) (pa_cons (pv 1) pa_nil)) (pv 2)))))), ?_⟩
    refine ⟨_, rfl, l, rfl, ⟨_, .inl (.inl hl)⟩, fun D hD => ?_⟩
    refine lc_list (K := K) (a := l) (xs := vs) (fun i H1 => Same H H1 ∧ H1 D = some (.lst (((ps.take i).map plen).map fun n : Nat => V.int (n : Nat)))) ⟨sameNew hD, upd_same⟩ (fun i H1 _ p => .inl (.inl (p.1 _ _ hl))) (fun i y H1 hi p => ?_) fun H1 p => ?_
    · obtain ⟨s1, hD1⟩ := p
      obtain ⟨a, p, rfl, hpi, ha⟩ := hp.get hi
      have hw := ok.word p (List.mem_of_getElem? hpi)
      have ht := ok.times hn (List.mem_of_getElem? hpi)
      refine ⟨a, _, rfl, .inl (.inl (s1 _ _ ha)), rfl, _, _, rfl, _, _, rfl, rfl, rfl, yes_if ?_⟩
      refine ⟨_, rfl, S p.1, rfl, len_line (by omega), _, rfl, _, _, rfl, rfl, wide_mul (a := 10) (b := 300) (by rw [S_len]; omega) (by omega) (by decide) (by decide) (by decide), _, hD1, ?_, same_upd2 hD s1, ?_⟩
      · rw [List.length_map, List.length_map, List.length_take, sizeLine_eq]
        omega
      · rw [upd_same, List.take_succ, hpi, List.map_append, List.map_append, S_len]
        rfl
    · obtain ⟨s1, hD1⟩ := p
      rw [len, List.take_length] at hD1
      exact q D H1 s1 hD1
def sp_place0 : Sp := fun vs H Q _ => ∃ (e : Addr) (xs : List Nat), vs = [.ref e, .int 0] ∧ NatL H e xs ∧ (∀ x ∈ xs, 0 < x) ∧ xs.length ≤ 1000 ∧ ∀ t H', Same H H' → H' t = some (.tup [.int 0, .int (xs.headD 0 : Nat)]) → Q (.ref t) H'
theorem c_place_within (T : Txt K mg C) : C8.Cal P w K mg base 1 "place_within" sp_place0 [] := by
  refine calF T.d_place_within sc_place_within (fun vs H Q E h => ?_) (fun f cdv A outer s H vs Q E hr h => ?_)
  · obtain ⟨_, _, rfl, _⟩ := h; rfl
  · obtain ⟨e, xs, rfl, he, pos, lx, q⟩ := h
    have he' : H e = some (.lst (xs.map fun n : Nat => V.int (n : Nat))) := he
    refine ⟨_, (pss_cons (ps_for PassesOwn.never rfl (pi_enum (by rfl) T.m_enumerate (pa_cons (pv 0) pa_nil)) (pg_two (K := K) (i := 2) (j := 3) rfl rfl sc_place_within.nd rfl rfl (Or.inl rfl) (Or.inl rfl))
    (pss_cons (ps_if (pt_cmpR op_lt (pv 1) (pv 3) (nomark _))
    (pss_one (ps_ret (pe_tup (pa_cons (pv 2) (pa_cons (pe_op op_sub (pv 3) (pv 1)) pa_nil)))))
    pss_nil)
    (pss_one (ps_aug (i := 1) sc_place_within.nd rfl (.inl rfl) (pv 3) ip_sub))))
    (pss_one (ps_ret (pe_tup (pa_cons (pe_callB call_len_seq (by rfl) T.m_len (by decide +kernel) (pa_cons (pv 0) pa_nil)) (pa_cons pe_int pa_nil)))))), ?_⟩
    refine ⟨_, rfl, e, _, rfl, .inl (.inl he'), ?_⟩
    refine for_it (walk_enum (K := K) (a := e) (xs := xs.map fun n : Nat => V.int (n : Nat))) (fun i σ H' => i = 0 ∧ H' = H ∧ σ = [some (.ref e), some (.int 0), none, none]) ⟨rfl, rfl, rfl⟩ (fun i σ H' _ p => by rw [p.2.1]; exact .inl (.inl he')) (fun i v σ H' H'' hi p yy => ?_) fun σ H' p => ?_
    · obtain ⟨rfl, rfl, rfl⟩ := p
      obtain ⟨t, x, y, rfl, nt, rfl, hx, hy⟩ := yy
      cases hx
      have h0 : 0 < xs.length := by rw [List.length_map] at hi; exact hi
      obtain ⟨z, zs, rfl⟩ : ∃ z zs, xs = z :: zs := by
        cases xs with
        | nil => simp at h0
        | cons z zs => exact ⟨z, zs, rfl⟩
      cases hy
      have z0 := pos z List.mem_cons_self
      have st := sameNew (o := .tup [V.int (0 : Nat), V.int (z : Nat)]) nt
      refine ⟨t, _, rfl, .inl (.inl upd_same), rfl, _, _, rfl, _, _, rfl, rfl, ?_⟩
      refine ⟨_, rfl, _, rfl, _, _, rfl, rfl, _, rfl, ?_⟩
      rw [decide_eq_true (show (0 : Int) < ((z : Nat) : Int) by omega)]
      refine iteT ⟨_, rfl, _, rfl, _, rfl, _, _, rfl, rfl, by show 2 ≤ sizeLine; decide, fun t2 nt2 => ?_⟩
      refine q t2 _ (st.trans (sameNew nt2)) ?_
      rw [upd_same]
      show some (HO.tup [V.int ((0 : Nat) : Int), V.int ((z : Int) - 0)]) = _
      rw [Int.sub_zero]
      rfl
    · obtain ⟨h0, rfl, rfl⟩ := p
      rw [List.length_map] at h0
      have x0 : xs = [] := List.length_eq_zero_iff.mp h0
      subst x0
      refine ⟨_, rfl, e, _, rfl, .inl (.inl (.inl he')), by show 2 ≤ sizeLine; decide, fun t nt => ?_⟩
      exact q t _ (sameNew nt) upd_same
end
end K04K

set_option Elab.async false
set_option linter.all false
set_option maxRecDepth 100000
set_option maxHeartbeats 8000000
namespace K04K
open K04 PySem PySem.Spec PyProof.Rows L2 CK SX KM
/-- what is left of a kept word: r letters of piece i and all behind it -/
def restW (ps : List Pc) (i r : Nat) : List Nat := match ps[i]? with
  | some p => NM.tailE p.1 r ++ wr (ps.drop (i + 1))
  | none => []
theorem restW_at {ps : List Pc} {i : Nat} {p : Pc} (h : ps[i]? = some p) (r : Nat) : restW ps i r = NM.tailE p.1 r ++ wr (ps.drop (i + 1)) := by
  unfold restW
  rw [h]
theorem restW_start {ps : List Pc} (h : ∀ p ∈ ps, p.1 ≠ [] ∧ p.2 ≠ 0) (i : Nat) : restW ps i ((ps.map plen).getD i 0) = wr (ps.drop i) := by
  unfold restW
  cases e : ps[i]? with
  | none =>
    rw [List.drop_eq_nil_of_le (List.getElem?_eq_none_iff.mp e)]
    rfl
  | some p =>
    have hi := (List.getElem?_eq_some_iff.mp e).1
    have ne := (h p (List.mem_of_getElem? e)).1
    have e2 : (ps.map plen).getD i 0 = p.1.length * p.2 := by
      rw [List.getD_eq_getElem?_getD, List.getElem?_map, e]
      rfl
    have e3 : ps.drop i = p :: ps.drop (i + 1) := by
      rw [List.drop_eq_getElem_cons hi]
      congr 1
      exact (List.getElem?_eq_some_iff.mp e).2
    show NM.tailE p.1 ((ps.map plen).getD i 0) ++ _ = _
    rw [e2, WM.tail_full ne, e3]
    rfl
theorem restW_zero {ps : List Pc} {i : Nat} (h : ∀ p ∈ ps, p.1 ≠ [] ∧ p.2 ≠ 0) : restW ps i 0 = wr (ps.drop (i + 1)) := by
  unfold restW
  cases e : ps[i]? with
  | none =>
    rw [List.drop_eq_nil_of_le (by have := List.getElem?_eq_none_iff.mp e; omega)]
    rfl
  | some p =>
    have ne := (h p (List.mem_of_getElem? e)).1
    have l := NM.tailE_len ne 0
    show NM.tailE p.1 0 ++ _ = _
    rw [List.length_eq_zero_iff.mp l]
    rfl
/-- a place between two pieces -/
structure At (ps : List Pc) (i r : Nat) : Prop where
  le : i ≤ ps.length
  pos : i < ps.length → 0 < r
  top : ∀ p, ps[i]? = some p → r ≤ plen p
theorem At.start {ps : List Pc} (h : ∀ p ∈ ps, p.1 ≠ [] ∧ p.2 ≠ 0) {i : Nat} (hi : i ≤ ps.length) : At ps i ((ps.map plen).getD i 0) := by
  have g : ∀ p, ps[i]? = some p → (ps.map plen).getD i 0 = plen p := fun p e => by
    rw [List.getD_eq_getElem?_getD, List.getElem?_map, e]
    rfl
  refine ⟨hi, fun lt => ?_, fun p e => by rw [g p e]; exact Nat.le_refl _⟩
  have e := List.getElem?_eq_getElem lt
  obtain ⟨n1, n2⟩ := h _ (List.getElem_mem lt)
  rw [g _ e]
  exact Nat.mul_pos (List.length_pos_iff.mpr n1) (Nat.pos_of_ne_zero n2)
theorem join1 {a u : TS} {D : Ends} {σ : L2.St} {H : Hp} (Pre : L2.St → Hp → Prop) (rest : ∀ σ' H', Pre σ' H' → u D σ' H') (m : ∀ U : TS, (∀ σ' H', Pre σ' H' → U D σ' H') → tSeq a U D σ H) : tSeq a u D σ H := m u rest
theorem tAnd_mono {t u : TT} (mt : ∀ σ H (Q Q' : Bool → Hp → Prop), (∀ b H1, Q b H1 → Q' b H1) → t σ H Q → t σ H Q') (mu : ∀ σ H (Q Q' : Bool → Hp → Prop), (∀ b H1, Q b H1 → Q' b H1) → u σ H Q → u σ H Q') : ∀ σ H (Q Q' : Bool → Hp → Prop), (∀ b H1, Q b H1 → Q' b H1) → tAnd t u σ H Q → tAnd t u σ H Q' := fun σ H Q Q' hq h => by
  refine mt _ _ _ _ (fun b H1 h1 => ?_) h
  cases b with
  | true => exact mu _ _ _ _ hq h1
  | false => exact hq _ _ h1
theorem restW_none {ps : List Pc} {i : Nat} (h : ps.length ≤ i) (r : Nat) : restW ps i r = [] := by
  unfold restW
  rw [List.getElem?_eq_none h]
theorem hd_get (xs : List Nat) : xs.headD 0 = xs.getD 0 0 := by cases xs <;> rfl
theorem nat_at {xs : List Nat} {i : Nat} (h : i < xs.length) : (xs.map fun n : Nat => V.int (n : Nat))[i]? = some (.int ((xs.getD i 0 : Nat) : Int)) := by
  rw [List.getElem?_map, List.getElem?_eq_getElem h, List.getD_eq_getElem?_getD, List.getElem?_eq_getElem h]
  rfl
theorem min_int (a b : Nat) : (if (b : Int) < (a : Int) then (b : Int) else (a : Int)) = ((min a b : Nat) : Int) := by
  split <;> omega
/-- a place that has come to an end goes on to the next piece -/
theorem nextAt {ps : List Pc} (h : ∀ p ∈ ps, p.1 ≠ [] ∧ p.2 ≠ 0) {i : Nat} (hi : i < ps.length) : At ps (i + 1) ((ps.map plen).getD (i + 1) 0) ∧ restW ps i 0 = restW ps (i + 1) ((ps.map plen).getD (i + 1) 0) := ⟨At.start h hi, by rw [restW_zero h, restW_start h]⟩
section
variable {P : Program} {w : World} {K : PySem.W.Frag} {mg : Str → Option Value} {base : Heap} {C : Addr}
def sp_alike_from : Sp := fun vs H Q _ => ∃ (l1 l2 : Addr) (ps qs : List Pc) (n : Nat), vs = [.ref l1, .int 0, .ref l2, .int 0] ∧ PL H l1 ps ∧ PL H l2 qs ∧ OK n ps ∧ OK n qs ∧ n ≤ 1000 ∧ (∀ p ∈ ps, p.1 ≠ [] ∧ p.2 ≠ 0) ∧ (∀ p ∈ qs, p.1 ≠ [] ∧ p.2 ≠ 0) ∧ ∀ H', Same H H' → Q (.int (WM.lcp (wr ps) (wr qs) : Nat)) H'
theorem c_alike_from (T : Txt K mg C) : C8.Cal P w K mg base 2 "alike_from" sp_alike_from [] := by
  refine calF T.d_alike_from sc_alike_from (fun vs H Q E h => ?_) (fun f cdv A outer s H vs Q E hr h => ?_)
  · obtain ⟨_, _, _, _, _, rfl, _⟩ := h; rfl
  · obtain ⟨l1, l2, ps, qs, n, rfl, pl1, pl2, ok1, ok2, hn, ne1, ne2, q⟩ := h
    refine ⟨_, (pss_cons (ps_par (i := 4) (j := 5) (by rfl) sc_alike_from.nd rfl rfl (by decide) rfl rfl (pa_cons (C8.pe_c (c_sizes_of T) hr (by decide) (by rfl) (pa_cons (pv 0) pa_nil)) (pa_cons (C8.pe_c (c_sizes_of T) hr (by decide) (by rfl) (pa_cons (pv 2) pa_nil)) pa_nil)) (by rfl))
    (pss_cons (ps_asg (C8.pe_c (c_place_within T) hr (by decide) (by rfl) (pa_cons (pv 4) (pa_cons (pv 1) pa_nil))) (pg_two (K := K) (i := 6) (j := 7) rfl rfl sc_alike_from.nd rfl rfl (Or.inl rfl) (Or.inl rfl)))
    (pss_cons (ps_asg (C8.pe_c (c_place_within T) hr (by decide) (by rfl) (pa_cons (pv 5) (pa_cons (pv 3) pa_nil))) (pg_two (K := K) (i := 8) (j := 9) rfl rfl sc_alike_from.nd rfl rfl (Or.inl rfl) (Or.inl rfl)))
    (pss_cons (ps_set (i := 10) sc_alike_from.nd rfl (Or.inl rfl) pe_int)
    (pss_cons (ps_while PassesOwn.never (PW.pt (pw_and (pt_cmpR op_lt (pv 6) (pe_callB call_len_seq (by rfl) T.m_len (by decide +kernel) (pa_cons (pv 0) pa_nil)) (nomark _)) (pw_and1 (pt_cmpR op_lt (pv 8) (pe_callB call_len_seq (by rfl) T.m_len (by decide +kernel) (pa_cons (pv 2) pa_nil)) (nomark _)))))
    (pss_cons (ps_set (i := 11) sc_alike_from.nd rfl (Or.inl rfl) (pe_callB (call_min2 rfl) (by rfl) T.m_min (by decide +kernel) (pa_cons (pv 7) (pa_cons (pv 9) pa_nil))))
    (pss_cons (ps_set (i := 12) sc_alike_from.nd rfl (Or.inl rfl) (pe_callB (call_min2 rfl) (by rfl) T.m_min (by decide +kernel) (pa_cons (pv 11) (pa_cons (pe_op op_add (pe_callB call_len_str (by rfl) T.m_len (by decide +kernel) (pa_cons (pe_ix ix_tup (pe_ix ix_list (pv 0) (pv 6) (fun _ _ => rfl)) pe_int (fun _ _ => rfl)) pa_nil)) (pe_callB call_len_str (by rfl) T.m_len (by decide +kernel) (pa_cons (pe_ix ix_tup (pe_ix ix_list (pv 2) (pv 8) (fun _ _ => rfl)) pe_int (fun _ _ => rfl)) pa_nil))) pa_nil))))
    (pss_cons (ps_set (i := 13) sc_alike_from.nd rfl (Or.inl rfl) (C8.pe_c (c_alike_ahead T) hr (by decide) (by rfl) (pa_cons (C8.pe_c (c_stretch T) hr (by decide) (by rfl) (pa_cons (pe_ix ix_tup (pe_ix ix_list (pv 0) (pv 6) (fun _ _ => rfl)) pe_int (fun _ _ => rfl)) (pa_cons (pe_un un_neg (pv 7)) (pa_cons (pv 12) pa_nil)))) (pa_cons (C8.pe_c (c_stretch T) hr (by decide) (by rfl) (pa_cons (pe_ix ix_tup (pe_ix ix_list (pv 2) (pv 8) (fun _ _ => rfl)) pe_int (fun _ _ => rfl)) (pa_cons (pe_un un_neg (pv 9)) (pa_cons (pv 12) pa_nil)))) pa_nil))))
    (pss_cons (ps_if (pt_cmpR op_lt (pv 13) (pv 12) (nomark _))
    (pss_one (ps_ret (pe_op op_add (pv 10) (pv 13))))
    pss_nil)
    (pss_cons (ps_aug (i := 10) sc_alike_from.nd rfl (.inl rfl) (pv 11) ip_add)
    (pss_cons (ps_aug (i := 7) sc_alike_from.nd rfl (.inl rfl) (pv 11) ip_sub)
    (pss_cons (ps_aug (i := 9) sc_alike_from.nd rfl (.inl rfl) (pv 11) ip_sub)
    (pss_cons (ps_if (pt_not (pt_truth (pv 7) (by intro _; rfl)))
    (pss_cons (ps_aug (i := 6) sc_alike_from.nd rfl (.inl rfl) pe_int ip_add)
    (pss_one (ps_set (i := 7) sc_alike_from.nd rfl (Or.inl rfl) (pe_ifExp (pt_cmpR op_lt (pv 6) (pe_callB call_len_seq (by rfl) T.m_len (by decide +kernel) (pa_cons (pv 0) pa_nil)) (nomark _)) (pe_ix ix_list (pv 4) (pv 6) (fun _ _ => rfl)) pe_int))))
    pss_nil)
    (pss_one (ps_if (pt_not (pt_truth (pv 9) (by intro _; rfl)))
    (pss_cons (ps_aug (i := 8) sc_alike_from.nd rfl (.inl rfl) pe_int ip_add)
    (pss_one (ps_set (i := 9) sc_alike_from.nd rfl (Or.inl rfl) (pe_ifExp (pt_cmpR op_lt (pv 8) (pe_callB call_len_seq (by rfl) T.m_len (by decide +kernel) (pa_cons (pv 2) pa_nil)) (nomark _)) (pe_ix ix_list (pv 5) (pv 8) (fun _ _ => rfl)) pe_int))))
    pss_nil)))))))))))
    (pss_one (ps_ret (pv 10)))))))), ?_⟩
    refine ⟨_, rfl, l1, ps, n, rfl, pl1, ok1, hn, fun e1 H1 s1 hE1 => ?_⟩
    refine ⟨_, rfl, l2, qs, n, rfl, pl2.same s1, ok2, hn, fun e2 H2 s2 hE2 => ⟨_, _, rfl, ?_⟩⟩
    have pos1 : ∀ x ∈ ps.map plen, 0 < x := fun x hx => by
      obtain ⟨p, hp, rfl⟩ := List.mem_map.mp hx
      exact Nat.mul_pos (List.length_pos_iff.mpr (ne1 p hp).1) (Nat.pos_of_ne_zero (ne1 p hp).2)
    have pos2 : ∀ x ∈ qs.map plen, 0 < x := fun x hx => by
      obtain ⟨p, hp, rfl⟩ := List.mem_map.mp hx
      exact Nat.mul_pos (List.length_pos_iff.mpr (ne2 p hp).1) (Nat.pos_of_ne_zero (ne2 p hp).2)
    have lk1 := ok1.len
    have lk2 := ok2.len
    have hE12 := s2 _ _ hE1
    refine ⟨_, rfl, _, rfl, e1, ps.map plen, rfl, hE12, pos1, by rw [List.length_map]; omega, fun t3 H3 s3 ht3 => ?_⟩
    refine ⟨t3, _, rfl, .inl (.inl ht3), rfl, _, _, rfl, _, _, rfl, rfl, ?_⟩
    have hE23 : NatL H3 e2 (qs.map plen) := s3 _ _ hE2
    refine ⟨_, rfl, _, rfl, e2, qs.map plen, rfl, hE23, pos2, by rw [List.length_map]; omega, fun t4 H4 s4 ht4 => ?_⟩
    refine ⟨t4, _, rfl, .inl (.inl ht4), rfl, _, _, rfl, _, _, rfl, rfl, ?_⟩
    have s04 := ((s1.trans s2).trans s3).trans s4
    have hE1' := s4 _ _ (s3 _ _ hE12)
    have hE2' := s4 _ _ hE23
    obtain ⟨vs1, hl1, hv1⟩ := pl1
    obtain ⟨vs2, hl2, hv2⟩ := pl2
    have len1 := hv1.len
    have len2 := hv2.len
    refine while_by (fun σ H' => Same H4 H' ∧ ∃ (i r1 j r2 t : Nat) (y1 y2 y3 : Option V), σ = [some (.ref l1), some (.int 0), some (.ref l2), some (.int 0), some (.ref e1), some (.ref e2), some (.int (i : Nat)), some (.int (r1 : Nat)), some (.int (j : Nat)), some (.int (r2 : Nat)), some (.int (t : Nat)), y1, y2, y3] ∧ At ps i r1 ∧ At qs j r2 ∧ t + WM.lcp (restW ps i r1) (restW qs j r2) = WM.lcp (wr ps) (wr qs))
      (fun σ _ => match σ with | [_, _, _, _, _, _, some (.int i), _, some (.int j), _, _, _, _, _] => (ps.length - i.toNat) + (qs.length - j.toNat) | _ => 0) ?_ (fun σ H' p => ?_) ?_
    · refine ⟨Same.refl _, 0, (ps.map plen).headD 0, 0, (qs.map plen).headD 0, 0, none, none, none, rfl, ?_, ?_, ?_⟩
      · rw [hd_get]; exact At.start ne1 (Nat.zero_le _)
      · rw [hd_get]; exact At.start ne2 (Nat.zero_le _)
      · rw [hd_get, hd_get, restW_start ne1, restW_start ne2, Nat.zero_add, List.drop_zero, List.drop_zero]
    · obtain ⟨s5, i, r1, j, r2, t, y1, y2, y3, rfl, a1, a2, et⟩ := p
      have s05 := s04.trans s5
      have g1 := s05 _ _ hl1
      have g2 := s05 _ _ hl2
      have h1 := s5 _ _ hE1'
      have h2 := s5 _ _ hE2'
      have stop : (restW ps i r1 = [] ∨ restW qs j r2 = []) → t = WM.lcp (wr ps) (wr qs) := fun z => by
        have := WM.lcp_le (restW ps i r1) (restW qs j r2)
        rcases z with z | z <;> rw [z] at this et <;> rw [List.length_nil] at this <;> omega
      refine ⟨_, rfl, _, rfl, l1, _, rfl, .inl (.inl (.inl g1)), _, _, rfl, rfl, _, rfl, ite2 (fun c1 => ?_) (fun c1 => ?_)⟩
      · have hi : i < ps.length := by
          have := of_decide_eq_true c1
          omega
        refine ⟨_, rfl, _, rfl, l2, _, rfl, .inl (.inl (.inl g2)), _, _, rfl, rfl, _, rfl, ite2 (fun c2 => ?_) (fun c2 => ?_)⟩
        · have hj : j < qs.length := by
            have := of_decide_eq_true c2
            omega
          have hpi := List.getElem?_eq_getElem hi
          have hqj := List.getElem?_eq_getElem hj
          generalize ps[i] = p at hpi
          generalize qs[j] = p' at hqj
          obtain ⟨a, hva, ha⟩ := hv1.at hpi
          obtain ⟨b, hvb, hb⟩ := hv2.at hqj
          replace ha := s05 _ _ ha
          replace hb := s05 _ _ hb
          have mp := List.mem_of_getElem? hpi
          have mq := List.mem_of_getElem? hqj
          have wp := (ok1.word p mp).1
          have wq := (ok2.word p' mq).1
          have tp := ok1.times hn mp
          have tq := ok2.times hn mq
          have np := (ne1 p mp).1
          have nq := (ne2 p' mq).1
          have p0 := a1.pos hi
          have q0 := a2.pos hj
          have pt := a1.top p hpi
          have qt := a2.top p' hqj
          have small : ∀ {p : Pc} {r : Nat}, p.1.length ≤ 1000 → p.2 < 2 ^ 300 → r ≤ plen p → r < 2 ^ 400 := fun {p r} x1 x2 x3 => by
            have : p.1.length * p.2 ≤ 1000 * 2 ^ 300 := Nat.mul_le_mul x1 (Nat.le_of_lt x2)
            have e : plen p = p.1.length * p.2 := rfl
            omega
          have sp := small wp tp pt
          have sq := small wq tq qt
          refine ⟨_, rfl, _, rfl, _, _, rfl, ?_⟩
          dsimp only
          rw [min_int]
          generalize hs : min r1 r2 = size
          refine ⟨_, rfl, _, rfl, _, rfl, l1, _, _, _, rfl, rfl, .inl (.inl g1), atI_nat (j := i) hva, a, _, _, _, rfl, rfl, .inl (.inl ha), rfl, S p.1, rfl, K04.len_line (by omega), _, rfl, _, rfl, l2, _, _, _, rfl, rfl, .inl (.inl g2), atI_nat (j := j) hvb, b, _, _, _, rfl, rfl, .inl (.inl hb), rfl, S p'.1, rfl, K04.len_line (by omega), _, _, rfl, rfl, _, _, rfl, ?_⟩
          dsimp only
          rw [S_len, S_len, ← Int.natCast_add, min_int]
          generalize hk : min size (p.1.length + p'.1.length) = look
          have T := WM.turn (u := p.1) (v := p'.1) (A := wr (ps.drop (i + 1))) (B := wr (qs.drop (j + 1))) np nq hs.symm hk.symm
          rw [← restW_at hpi, ← restW_at hqj, ← restW_at hpi, ← restW_at hqj] at T
          refine ⟨_, rfl, _, rfl, l1, _, _, _, rfl, rfl, .inl (.inl g1), atI_nat (j := i) hva, a, _, _, _, rfl, rfl, .inl (.inl ha), rfl, _, rfl, _, rfl, _, rfl, p.1, r1, look, rfl, np, by omega, by omega, by omega, sp, ?_⟩
          refine ⟨_, rfl, _, rfl, l2, _, _, _, rfl, rfl, .inl (.inl g2), atI_nat (j := j) hvb, b, _, _, _, rfl, rfl, .inl (.inl hb), rfl, _, rfl, _, rfl, _, rfl, p'.1, r2, look, rfl, nq, by omega, by omega, by omega, sq, ?_⟩
          refine ⟨_, _, rfl, by rw [List.length_take]; omega, by rw [List.length_take]; omega, ?_⟩
          generalize WM.lcp (List.take look (NM.tailE p.1 r1)) (List.take look (NM.tailE p'.1 r2)) = same at T ⊢
          obtain ⟨T1, T2⟩ := T
          refine ⟨_, rfl, _, rfl, _, _, rfl, rfl, _, rfl, ite2 (fun c3 => ?_) (fun c3 => ?_)⟩
          · have lt : same < look := by
              have := of_decide_eq_true c3
              omega
            refine ⟨_, rfl, _, rfl, _, _, rfl, rfl, ?_⟩
            dsimp only
            rw [← Int.natCast_add, show t + same = WM.lcp (wr ps) (wr qs) by rw [← et, T1 lt]]
            exact q _ s05
          · have ge : ¬ same < look := fun z => c3 (decide_eq_true (by omega))
            have et2 := T2 ge
            show tNext _ _ _
            unfold tNext
            refine ⟨_, rfl, _, rfl, _, _, rfl, rfl, _, rfl, _, rfl, _, _, rfl, rfl, _, rfl, _, rfl, _, _, rfl, rfl, ?_⟩
            dsimp only
            rw [← Int.natCast_add, show ((r1 : Int) - (size : Int)) = ((r1 - size : Nat) : Int) by omega, show ((r2 : Int) - (size : Int)) = ((r2 - size : Nat) : Int) by omega]
            generalize hx1 : r1 - size = x1 at et2 ⊢
            generalize hx2 : r2 - size = x2 at et2 ⊢
            have zz : x1 = 0 ∨ x2 = 0 := by omega
            have or1 : x1 ≤ plen p := by omega
            have or2 : x2 ≤ plen p' := by omega
            generalize ht : t + size = t1
            have et3 : t1 + WM.lcp (restW ps i x1) (restW qs j x2) = WM.lcp (wr ps) (wr qs) := by omega
            refine join1 (fun σ' H5 => Same H' H5 ∧ ∃ i' r' : Nat, σ' = [some (.ref l1), some (.int 0), some (.ref l2), some (.int 0), some (.ref e1), some (.ref e2), some (.int (i' : Nat)), some (.int (r' : Nat)), some (.int (j : Nat)), some (.int (x2 : Nat)), some (.int (t1 : Nat)), some (.int (size : Nat)), some (.int (look : Nat)), some (.int (same : Nat))] ∧ At ps i' r' ∧ restW ps i x1 = restW ps i' r' ∧ ps.length - i' ≤ ps.length - i ∧ (x1 = 0 → ps.length - i' < ps.length - i)) (fun σ' H5 pre => ?_) (fun U hU => ?_)
            · obtain ⟨s6, i', r', rfl, a1', e1', le1, lt1⟩ := pre
              rw [e1'] at et3
              have g1' := s6 _ _ g1
              have g2' := s6 _ _ g2
              have h2' := s6 _ _ h2
              refine if_end (!((x2 : Int) != 0)) (fun R hR => ⟨_, rfl, _, rfl, hR _ (Same.refl _)⟩) (fun z H6 s7 => ?_) (fun z H6 s7 => ?_)
              · have x0 : x2 = 0 := by simp at z; omega
                subst x0
                have nx := nextAt ne2 hj
                have g2'' := s7 _ _ g2'
                have h2'' := s7 _ _ h2'
                refine ⟨_, rfl, _, _, rfl, rfl, _, rfl, _, rfl, l2, _, rfl, .inl (.inl (.inl g2'')), _, _, rfl, rfl, _, rfl, ite2 (fun c4 => ?_) (fun c4 => ?_)⟩
                · have hj' : j + 1 < qs.length := by
                    have := of_decide_eq_true c4
                    dsimp only at this
                    omega
                  refine ⟨_, rfl, _, rfl, e2, _, _, _, rfl, rfl, .inl (.inl h2''), atI_nat (j := j + 1) (nat_at (by rw [List.length_map]; exact hj')), ⟨(s5.trans s6).trans s7, i', r', j + 1, _, t1, _, _, _, rfl, a1', nx.1, by rw [← nx.2]; exact et3⟩, ?_⟩
                  show ps.length - ((i' : Nat) : Int).toNat + (qs.length - ((j : Int) + 1).toNat) < ps.length - ((i : Nat) : Int).toNat + (qs.length - (j : Int).toNat)
                  omega
                · have hj' : ¬ j + 1 < qs.length := fun z => c4 (decide_eq_true (by dsimp only; omega))
                  refine ⟨⟨(s5.trans s6).trans s7, i', r', j + 1, 0, t1, _, _, _, rfl, a1', ⟨by omega, fun z => absurd z hj', fun p e => ?_⟩, ?_⟩, ?_⟩
                  · rw [List.getElem?_eq_none (by omega)] at e
                    cases e
                  · rw [restW_none (i := j + 1) (by omega)]
                    rw [nx.2, restW_none (i := j + 1) (by omega)] at et3
                    exact et3
                  · show ps.length - ((i' : Nat) : Int).toNat + (qs.length - ((j : Int) + 1).toNat) < ps.length - ((i : Nat) : Int).toNat + (qs.length - (j : Int).toNat)
                    omega
              · have x0 : x2 ≠ 0 := by simp at z; omega
                have l1' := lt1 (by omega)
                refine ⟨⟨(s5.trans s6).trans s7, i', r', j, x2, t1, _, _, _, rfl, a1', ⟨a2.le, fun _ => Nat.pos_of_ne_zero x0, fun p2 e => by rw [hqj] at e; cases e; exact or2⟩, et3⟩, ?_⟩
                show ps.length - ((i' : Nat) : Int).toNat + (qs.length - (j : Int).toNat) < ps.length - ((i : Nat) : Int).toNat + (qs.length - (j : Int).toNat)
                omega
            · refine if_dec (!((x1 : Int) != 0)) (fun R hR => ⟨_, rfl, _, rfl, hR _ (Same.refl _)⟩) (fun z H5 s6 => ?_) (fun z H5 s6 => ?_)
              · have x0 : x1 = 0 := by simp at z; omega
                subst x0
                have nx := nextAt ne1 hi
                have g1' := s6 _ _ g1
                have h1' := s6 _ _ h1
                refine ⟨_, rfl, _, _, rfl, rfl, _, rfl, _, rfl, l1, _, rfl, .inl (.inl (.inl g1')), _, _, rfl, rfl, _, rfl, ite2 (fun c4 => ?_) (fun c4 => ?_)⟩
                · have hi' : i + 1 < ps.length := by
                    have := of_decide_eq_true c4
                    dsimp only at this
                    omega
                  exact ⟨_, rfl, _, rfl, e1, _, _, _, rfl, rfl, .inl (.inl h1'), atI_nat (j := i + 1) (nat_at (by rw [List.length_map]; exact hi')), hU _ _ ⟨s6, i + 1, _, rfl, nx.1, nx.2, by omega, fun _ => by omega⟩⟩
                · have hi' : ¬ i + 1 < ps.length := fun z => c4 (decide_eq_true (by dsimp only; omega))
                  refine hU _ _ ⟨s6, i + 1, 0, rfl, ⟨by omega, fun z => absurd z hi', fun p e => ?_⟩, ?_, by omega, fun _ => by omega⟩
                  · rw [List.getElem?_eq_none (by omega)] at e
                    cases e
                  · rw [restW_none (i := i + 1) (by omega), nx.2, restW_none (by omega)]
              · have x0 : x1 ≠ 0 := by simp at z; omega
                exact hU _ _ ⟨s6, i, x1, rfl, ⟨a1.le, fun _ => Nat.pos_of_ne_zero x0, fun p2 e => by rw [hpi] at e; cases e; exact or1⟩, rfl, Nat.le_refl _, fun e => absurd e x0⟩
        · have hj : qs.length ≤ j := by
            have : ¬ (j : Int) < _ := fun z => c2 (decide_eq_true z)
            omega
          refine ⟨_, rfl, ?_⟩
          dsimp only
          rw [stop (.inr (restW_none hj _))]
          exact q _ s05
      · have hi : ps.length ≤ i := by
          have : ¬ (i : Int) < _ := fun z => c1 (decide_eq_true z)
          omega
        refine iteF ⟨_, rfl, ?_⟩
        dsimp only
        rw [stop (.inl (restW_none hi _))]
        exact q _ s05
    · refine tAnd_mono (fun σ H' Q1 Q2 hq h => ?_) (fun σ H' Q1 Q2 hq h => ?_)
      all_goals
        obtain ⟨a, ha, b, hb, x, y, e1, e2, k, l, e4, e5, z, e3, h⟩ := h
        exact ⟨a, ha, b, hb, x, y, e1, e2, k, l, e4, e5, z, e3, hq _ _ h⟩
end
end K04K

set_option Elab.async false
set_option linter.all false
set_option maxRecDepth 100000
set_option maxHeartbeats 4000000
namespace K04K
open K04 PySem PySem.Spec PyProof.Rows L2 CK SX KM
section
variable {P : Program} {w : World} {K : PySem.W.Frag} {mg : Str → Option Value} {base : Heap} {C : Addr}
def sp_agree (C : Addr) : Sp := fun vs H Q _ => ∃ (a b : Addr) (ps qs : List Pc) (n : Nat), vs = [.ref a, .ref b] ∧ KW C H a ps ∧ KW C H b qs ∧ OK n ps ∧ OK n qs ∧ n ≤ 1000 ∧ (∀ p ∈ ps, p.1 ≠ [] ∧ p.2 ≠ 0) ∧ (∀ p ∈ qs, p.1 ≠ [] ∧ p.2 ≠ 0) ∧ ∀ H', Same H H' → Q (.int (WM.lcp (wr ps) (wr qs) : Nat)) H'
theorem c_agree (T : Txt K mg C) : C8.Cal P w K mg base 4 "agree" (sp_agree C) [] := by
  refine calF T.d_agree sc_agree (fun vs H Q E h => ?_) (fun f cdv A outer s H vs Q E hr h => ?_)
  · obtain ⟨_, _, _, _, _, rfl, _⟩ := h; rfl
  · obtain ⟨a, b, ps, qs, n, rfl, ka, kb, oa, ob, hn, na, nb, q⟩ := h
    obtain ⟨dx, l, e, ha, hl, he⟩ := id ka
    obtain ⟨dy, l', e', hb, hl', he'⟩ := id kb
    refine ⟨_, (pss_cons (ps_expr (C8.pe_c (c_need_kept T) hr (by decide) (by rfl) (pa_cons (pv 0) pa_nil)))
    (pss_cons (ps_expr (C8.pe_c (c_need_kept T) hr (by decide) (by rfl) (pa_cons (pv 1) pa_nil)))
    (pss_one (ps_ret (C8.pe_c (c_alike_from T) hr (by decide) (by rfl) (pa_cons (C8.pe_mt0 (m_KeptWord_pieces T) hr (by decide) (pv 0)) (pa_cons pe_int (pa_cons (C8.pe_mt0 (m_KeptWord_pieces T) hr (by decide) (pv 1)) (pa_cons pe_int pa_nil))))))))), ?_⟩
    refine ⟨_, rfl, a, ps, rfl, ka, _, rfl, b, qs, rfl, kb, ?_⟩
    refine ⟨_, rfl, a, dx, _, rfl, ha, kf_no l e (by decide +kernel) (by decide +kernel), a, ps, rfl, ka, fun l1 H1 s1 n1 pl1 => ?_⟩
    refine ⟨_, rfl, b, dy, _, rfl, s1 _ _ hb, kf_no l' e' (by decide +kernel) (by decide +kernel), b, qs, rfl, kb.same s1, fun l2 H2 s2 n2 pl2 => ?_⟩
    exact ⟨l1, l2, ps, qs, n, rfl, pl1.same s2, pl2, oa, ob, hn, na, nb, fun H3 s3 => q H3 ((s1.trans s2).trans s3)⟩
/-- how two words stand: none of both goes on, one does, or they part -/
def ord (x y : List Nat) : Int := if WM.lcp x y = x.length ∨ WM.lcp x y = y.length then b2i (decide (WM.lcp x y < x.length)) - b2i (decide (WM.lcp x y < y.length)) else if decide ((S [x.getD (WM.lcp x y) 0]).cps.toList < (S [y.getD (WM.lcp x y) 0]).cps.toList) = true then -1 else 1
theorem ord_zero (x y : List Nat) : decide (ord x y = 0) = decide (x = y) := by
  refine decide_eq_decide.mpr ⟨fun h => ?_, fun h => ?_⟩
  · have le := WM.lcp_le x y
    have t := WM.lcp_take x y _ (Nat.le_refl _)
    unfold ord at h
    by_cases c : WM.lcp x y = x.length ∨ WM.lcp x y = y.length
    · rw [if_pos c] at h
      have e1 : WM.lcp x y = x.length ∧ WM.lcp x y = y.length := by
        by_cases c1 : WM.lcp x y < x.length <;> by_cases c2 : WM.lcp x y < y.length
        · omega
        · rw [decide_eq_true c1, decide_eq_false c2] at h
          exact absurd h (by decide)
        · rw [decide_eq_false c1, decide_eq_true c2] at h
          exact absurd h (by decide)
        · omega
      rw [List.take_of_length_le (by omega), List.take_of_length_le (by omega)] at t
      exact t
    · rw [if_neg c] at h
      split at h <;> exact absurd h (by decide)
  · subst h
    have l := WM.le_lcp x x x.length (Nat.le_refl _) (Nat.le_refl _) rfl
    have le := WM.lcp_le x x
    unfold ord
    rw [if_pos (.inl (by omega)), Int.sub_self]
def sp_compare (C : Addr) : Sp := fun vs H Q _ => ∃ (a b : Addr) (ps qs : List Pc) (n : Nat), vs = [.ref a, .ref b] ∧ KW C H a ps ∧ KW C H b qs ∧ OK n ps ∧ OK n qs ∧ n ≤ 1000 ∧ (∀ p ∈ ps, p.1 ≠ [] ∧ p.2 ≠ 0) ∧ (∀ p ∈ qs, p.1 ≠ [] ∧ p.2 ≠ 0) ∧ ∀ H', Same H H' → Q (.int (ord (wr ps) (wr qs))) H'
theorem c_compare (T : Txt K mg C) : C8.Cal P w K mg base 5 "compare" (sp_compare C) [] := by
  refine calF T.d_compare sc_compare (fun vs H Q E h => ?_) (fun f cdv A outer s H vs Q E hr h => ?_)
  · obtain ⟨_, _, _, _, _, rfl, _⟩ := h; rfl
  · obtain ⟨a, b, ps, qs, n, rfl, ka, kb, oa, ob, hn, na, nb, q⟩ := h
    refine ⟨_, (pss_cons (ps_set (i := 2) sc_compare.nd rfl (Or.inl rfl) (C8.pe_c (c_agree T) hr (by decide) (by rfl) (pa_cons (pv 0) (pa_cons (pv 1) pa_nil))))
    (pss_cons (ps_if (PW.pt (pw_or (pt_cmpR op_eq (pv 2) (C8.pe_mt0 (m_KeptWord_length T) hr (by decide) (pv 0)) (nomark _)) (pw_or1 (pt_cmpR op_eq (pv 2) (C8.pe_mt0 (m_KeptWord_length T) hr (by decide) (pv 1)) (nomark _)))))
    (pss_one (ps_ret (pe_op op_subB (pe_cmpR op_gt (C8.pe_mt0 (m_KeptWord_length T) hr (by decide) (pv 0)) (pv 2) (nomark _)) (pe_cmpR op_gt (C8.pe_mt0 (m_KeptWord_length T) hr (by decide) (pv 1)) (pv 2) (nomark _)))))
    pss_nil)
    (pss_one (ps_ret (pe_ifExp (pt_cmpR op_lt_str (C8.pe_mt (m_KeptWord_letter T) hr (by decide) (pv 0) (pa_cons (pv 2) pa_nil)) (C8.pe_mt (m_KeptWord_letter T) hr (by decide) (pv 1) (pa_cons (pv 2) pa_nil)) (nomark _)) (pe_un un_neg pe_int) pe_int))))), ?_⟩
    refine ⟨_, rfl, _, rfl, a, b, ps, qs, n, rfl, ka, kb, oa, ob, hn, na, nb, fun H1 s1 => ?_⟩
    have ka1 := ka.same s1
    have kb1 := kb.same s1
    obtain ⟨dx, l, e, ha, hl, he⟩ := id ka1
    obtain ⟨dy, l', e', hb, hl', he'⟩ := id kb1
    have le := WM.lcp_le (wr ps) (wr qs)
    have g := q H1 s1
    unfold ord at g
    have gl := wr_len ps
    have gl' := wr_len qs
    refine ⟨_, rfl, _, rfl, a, dx, _, rfl, ha, kf_no l e (by decide +kernel) (by decide +kernel), a, ps, rfl, ka1, ?_⟩
    have fin : (WM.lcp (wr ps) (wr qs) = (wr ps).length ∨ WM.lcp (wr ps) (wr qs) = (wr qs).length) → (tRet
                          (tOp (fun x y H Q => ∃ a b, x = V.bl a ∧ y = V.bl b ∧ Q (V.int (b2i a - b2i b)) H)
                            (tOp (rI0 fun i j => V.bl (decide (j < i)))
                              (tMeth C (Str.ofString "length") (sp_length C) [] C8.E0 (tVar 0) tNil) (tVar 2))
                            (tOp (rI0 fun i j => V.bl (decide (j < i)))
                              (tMeth C (Str.ofString "length") (sp_length C) [] C8.E0 (tVar 1) tNil) (tVar 2)))) ⟨fun _ _ => True, Q, fun _ _ => True, fun _ _ => True⟩ [some (.ref a), some (.ref b), some (.int (WM.lcp (wr ps) (wr qs) : Nat))] H1 := fun c => by
      rw [if_pos c] at g
      refine ⟨_, rfl, a, dx, _, rfl, ha, kf_no l e (by decide +kernel) (by decide +kernel), a, ps, rfl, ka1, _, rfl, _, _, rfl, rfl, ?_⟩
      refine ⟨_, rfl, b, dy, _, rfl, hb, kf_no l' e' (by decide +kernel) (by decide +kernel), b, qs, rfl, kb1, _, rfl, _, _, rfl, rfl, _, _, rfl, rfl, ?_⟩
      rw [show decide (((WM.lcp (wr ps) (wr qs) : Nat) : Int) < (long ps : Nat)) = decide (WM.lcp (wr ps) (wr qs) < (wr ps).length) from decide_eq_decide.mpr (by omega), show decide (((WM.lcp (wr ps) (wr qs) : Nat) : Int) < (long qs : Nat)) = decide (WM.lcp (wr ps) (wr qs) < (wr qs).length) from decide_eq_decide.mpr (by omega)]
      exact g
    refine ⟨rfl, _, rfl, ite2 (fun c1 => iteT ?_) (fun c1 => ?_)⟩
    · have e1 := V.int.inj (of_decide_eq_true c1)
      exact fin (.inl (by omega))
    · refine ⟨_, rfl, _, rfl, b, dy, _, rfl, hb, kf_no l' e' (by decide +kernel) (by decide +kernel), b, qs, rfl, kb1, rfl, _, rfl, ite2 (fun c2 => ?_) (fun c2 => ?_)⟩
      · have e1 := V.int.inj (of_decide_eq_true c2)
        exact fin (.inr (by omega))
      · have n1 : WM.lcp (wr ps) (wr qs) ≠ long ps := fun z => c1 (decide_eq_true (by rw [z]))
        have n2 : WM.lcp (wr ps) (wr qs) ≠ long qs := fun z => c2 (decide_eq_true (by rw [z]))
        rw [if_neg (by omega)] at g
        have i1 : (wr ps)[WM.lcp (wr ps) (wr qs)]? = some ((wr ps).getD (WM.lcp (wr ps) (wr qs)) 0) := by
          rw [List.getD_eq_getElem?_getD, List.getElem?_eq_getElem (by omega)]; rfl
        have i2 : (wr qs)[WM.lcp (wr ps) (wr qs)]? = some ((wr qs).getD (WM.lcp (wr ps) (wr qs)) 0) := by
          rw [List.getD_eq_getElem?_getD, List.getElem?_eq_getElem (by omega)]; rfl
        refine ⟨_, rfl, a, dx, _, rfl, ha, kf_no l e (by decide +kernel) (by decide +kernel), _, rfl, a, ps, n, _, _, rfl, ka1, oa, hn, i1, ?_⟩
        refine ⟨_, rfl, b, dy, _, rfl, hb, kf_no l' e' (by decide +kernel) (by decide +kernel), _, rfl, b, qs, n, _, _, rfl, kb1, ob, hn, i2, _, _, rfl, rfl, _, rfl, ?_⟩
        refine ite2 (fun c3 => ?_) (fun c3 => ?_)
        · rw [if_pos c3] at g
          exact ⟨_, rfl, g⟩
        · rw [if_neg c3] at g
          exact g
def sp_same (C : Addr) : Sp := fun vs H Q _ => ∃ (a b : Addr) (ps qs : List Pc) (n : Nat), vs = [.ref a, .ref b] ∧ KW C H a ps ∧ KW C H b qs ∧ OK n ps ∧ OK n qs ∧ n ≤ 1000 ∧ (∀ p ∈ ps, p.1 ≠ [] ∧ p.2 ≠ 0) ∧ (∀ p ∈ qs, p.1 ≠ [] ∧ p.2 ≠ 0) ∧ ∀ H', Same H H' → Q (.bl (decide (wr ps = wr qs))) H'
theorem c_same_kept (T : Txt K mg C) : C8.Cal P w K mg base 6 "same_kept" (sp_same C) [] := by
  refine calF T.d_same_kept sc_same_kept (fun vs H Q E h => ?_) (fun f cdv A outer s H vs Q E hr h => ?_)
  · obtain ⟨_, _, _, _, _, rfl, _⟩ := h; rfl
  · obtain ⟨a, b, ps, qs, n, rfl, ka, kb, oa, ob, hn, na, nb, q⟩ := h
    refine ⟨_, (pss_one (ps_ret (pe_cmpR op_eq (C8.pe_c (c_compare T) hr (by decide) (by rfl) (pa_cons (pv 0) (pa_cons (pv 1) pa_nil))) pe_int (nomark _)))), ?_⟩
    refine ⟨_, rfl, _, rfl, a, b, ps, qs, n, rfl, ka, kb, oa, ob, hn, na, nb, fun H1 s1 => ⟨rfl, ?_⟩⟩
    have := q H1 s1
    rw [← ord_zero] at this
    show Q (V.bl (decide (V.int (ord (wr ps) (wr qs)) = V.int 0))) H1
    rw [show decide (V.int (ord (wr ps) (wr qs)) = V.int 0) = decide (ord (wr ps) (wr qs) = 0) from decide_eq_decide.mpr ⟨V.int.inj, congrArg V.int⟩]
    exact this
end
end K04K

set_option Elab.async false
set_option linter.all false
set_option maxRecDepth 100000
set_option maxHeartbeats 2000000
namespace K04K
open K04 PySem PySem.Spec PyProof.Rows L2 CK SX KM
theorem low_rot {w : List Nat} {k : Nat} (h : Low w) : Low (rot w k) := fun c hc => by
  rcases List.mem_append.mp hc with z | z
  · exact h c (List.mem_of_mem_drop z)
  · exact h c (List.mem_of_mem_take z)
theorem ok_cut1 {lo hi s : Nat} {p : Pc} (hw : p.1.length ≤ 1000 ∧ Low p.1) (ne : p.1 ≠ []) : (∀ q ∈ cut1 lo hi s p, q.1.length ≤ 1000 ∧ Low q.1) ∧ ((cut1 lo hi s p).map (·.2)).sum ≤ p.2 + 1 := by
  have n0 := List.length_pos_iff.mpr ne
  have rl := rot_len p.1 ((lo - s) % p.1.length)
  unfold cut1
  split
  · unfold two
    refine ⟨fun q hq => ?_, ?_⟩
    · rcases List.mem_cons.mp hq with z | z
      · rw [z]
        exact ⟨by have := hw.1; show (rot _ _).length ≤ 1000; omega, low_rot hw.2⟩
      · rw [List.mem_singleton.mp z]
        exact ⟨by have := hw.1; show ((rot _ _).take _).length ≤ 1000; rw [List.length_take]; omega, fun c hc => low_rot hw.2 c (List.mem_of_mem_take hc)⟩
    · have e1 : (min hi (s + plen p) - s - (lo - s)) / p.1.length ≤ p.2 := by
        refine Nat.le_trans (Nat.div_le_div_right (show _ ≤ p.1.length * p.2 from ?_)) (Nat.le_of_eq (Nat.mul_div_cancel_left _ n0))
        show min hi (s + plen p) - s - (lo - s) ≤ plen p
        omega
      simpa using e1
  · exact ⟨fun q hq => absurd hq List.not_mem_nil, Nat.zero_le _⟩
theorem lets_cut1 {lo hi s : Nat} {p : Pc} : ((cut1 lo hi s p).map (·.1.length)).sum ≤ 2 * p.1.length := by
  have rl := rot_len p.1 ((lo - s) % p.1.length)
  unfold cut1
  split
  · unfold two
    simp only [List.map_cons, List.map_nil, List.sum_cons, List.sum_nil, List.length_take]
    omega
  · exact Nat.zero_le _
theorem lets_cut {lo hi : Nat} : ∀ (ps : List Pc) (s : Nat), ((cutF lo hi s ps).map (·.1.length)).sum ≤ 2 * (ps.map (·.1.length)).sum
  | [], s => Nat.zero_le _
  | p :: r, s => by
    have a := lets_cut1 (lo := lo) (hi := hi) (s := s) (p := p)
    have b := lets_cut (lo := lo) (hi := hi) r (s + plen p)
    rw [cutF, List.map_append, List.sum_append, List.map_cons, List.sum_cons]
    omega
theorem OK.cut {lo hi n : Nat} {ps : List Pc} (h : OK n ps) (ne : ∀ p ∈ ps, p.1 ≠ []) : OK (2 * n) (cutF lo hi 0 ps) := by
  have key : ∀ (ps : List Pc) (s : Nat), (∀ p ∈ ps, p.1.length ≤ 1000 ∧ Low p.1) → (∀ p ∈ ps, p.1 ≠ []) →
      (∀ q ∈ cutF lo hi s ps, q.1.length ≤ 1000 ∧ Low q.1) ∧ ((cutF lo hi s ps).map (·.2)).sum ≤ (ps.map (·.2)).sum + ps.length := by
    intro ps
    induction ps with
    | nil => exact fun s _ _ => ⟨fun q hq => absurd hq List.not_mem_nil, Nat.zero_le _⟩
    | cons p r ih =>
      intro s h1 h2
      obtain ⟨a, b⟩ := ok_cut1 (lo := lo) (hi := hi) (s := s) (h1 p List.mem_cons_self) (h2 p List.mem_cons_self)
      obtain ⟨c, d⟩ := ih (s + plen p) (fun q hq => h1 q (List.mem_cons_of_mem _ hq)) (fun q hq => h2 q (List.mem_cons_of_mem _ hq))
      refine ⟨fun q hq => ?_, ?_⟩
      · rcases List.mem_append.mp hq with z | z
        · exact a q z
        · exact c q z
      · rw [cutF, List.map_append, List.sum_append]
        simp
        omega
  obtain ⟨a, b⟩ := key ps 0 h.word ne
  have := cutF_len lo hi ps 0
  have := h.len
  refine ⟨by omega, a, ?_, ?_⟩
  rotate_left
  · have l1 := lets_cut (lo := lo) (hi := hi) ps 0
    have l2 := h.lets
    omega
  have h3 := h.num
  have h4 : 2 * n * 2 ^ 200 = n * 2 ^ 200 + n * 2 ^ 200 := by rw [Nat.mul_assoc, Nat.two_mul]
  have h5 : n ≤ n * 2 ^ 200 := Nat.le_mul_of_pos_right _ (Nat.two_pow_pos _)
  omega
section
variable {P : Program} {w : World} {K : PySem.W.Frag} {mg : Str → Option Value} {base : Heap} {C : Addr}
def sp_kept_of (C : Addr) : Sp := fun vs H Q _ => ∃ (l : Addr) (ps : List Pc) (n : Nat), vs = [.ref l] ∧ PL H l ps ∧ OK n ps ∧ n ≤ 1000 ∧ ∀ p H', Same H H' → H p = none → KWf C H H' p (tidy ps) → Q (.ref p) H'
theorem c_kept_of (T : Txt K mg C) : C8.Cal P w K mg base 7 "kept_of" (sp_kept_of C) [] := by
  refine calF T.d_kept_of sc_kept_of (fun vs H Q E h => ?_) (fun f cdv A outer s H vs Q E hr h => ?_)
  · obtain ⟨_, _, _, rfl, _⟩ := h; rfl
  · obtain ⟨l, ps, n, rfl, hl, ok, hn, q⟩ := h
    have cl := T.k_KeptWord.ins.cl
    have okl := ok.len
    refine ⟨_, (pss_cons (ps_set (i := 1) sc_kept_of.nd rfl (Or.inl rfl) (C8.pe_mk (n_KeptWord T) hr (by decide) (by rfl) (pa_cons (pe_lst pa_nil) pa_nil)))
    (pss_cons (ps_fld (pv 1) (C8.pe_c (c_put_together T) hr (by decide) (by rfl) (pa_cons (pv 0) pa_nil)) rfl)
    (pss_cons (ps_fld (pv 1) (C8.pe_c (c_ends_of T) hr (by decide) (by rfl) (pa_cons (pe_fld (pv 1) rfl) pa_nil)) rfl)
    (pss_one (ps_ret (pv 1)))))), ?_⟩
    refine ⟨by show 0 ≤ sizeLine; omega, fun r hr0 => ?_⟩
    intro p dx np ndx nex
    have npr : p ≠ r := fun z => by rw [z, upd_same] at np; cases np
    have ndr : dx ≠ r := fun z => by rw [z, upd_same] at ndx; cases ndx
    have s0 : Same H (upd (upd (upd H r (.lst [])) dx (.own p)) p (.ins C dx [])) := fun b o e => by
      have hb := sameNew (o := .lst []) hr0 _ _ e
      rw [upd_ne (ne_of_none hb np), upd_ne (ne_of_none hb ndx)]
      exact hb
    have hpH : H p = none := (sameNew hr0).free np
    refine ⟨p, dx, r, [], 0, rfl, upd_same, ⟨[], by rw [upd_ne npr.symm, upd_ne ndr.symm, upd_same], .nil⟩, .nil, by omega, fun H1 s1 k1 => ⟨rfl, ?_⟩⟩
    have sH1 : Same H H1 := fun b o e => s1 _ _ (fun z => by rw [z, hpH] at e; cases e) (s0 _ _ e)
    obtain ⟨dx1, l1, e1, hp1, hl1, he1, _⟩ := k1
    refine ⟨_, rfl, l, ps, rfl, hl.same sH1, by omega, fun x hx => by have := (ok.word x hx).1; omega, fun r2 H2 s2 n2 P2 => ?_⟩
    have hp2 := s2 _ _ hp1
    refine ⟨_, rfl, p, C, dx1, _, rfl, hp2, cl, T.f_pieces, by show 2 < 1000; decide, ?_⟩
    have P3 : PL (upd H2 p (.ins C dx1 (putF "_pieces" (V.ref r2) (KF l1 e1)))) r2 (tidy ps) := P2.ins hp2
    have lk : (putF "_pieces" (V.ref r2) (KF l1 e1)).lookup ("_pieces" : Str) = some (V.ref r2) := by rw [put3]; exact kf_p _ _
    refine ⟨_, rfl, p, C, dx1, _, _, rfl, upd_same, cl, T.f_pieces, lk, r2, tidy ps, n, rfl, P3, ok.tidy, hn, fun e H4 s4 n4 E4 => ?_⟩
    have hp4 : H4 p = some (.ins C dx1 (putF "_pieces" (V.ref r2) (KF l1 e1))) := s4 _ _ upd_same
    refine ⟨_, rfl, p, C, dx1, _, rfl, hp4, cl, T.f_ends, by rw [put3]; show 2 < 1000; decide, _, rfl, ?_⟩
    refine q p _ (fun b o h => ?_) hpH ⟨dx1, r2, e, by rw [put3, put4]; exact upd_same, (P3.same s4).ins hp4, ?_, none_of (fun o h => ?_) n4⟩
    · have hb : b ≠ p := fun z => by rw [z, hpH] at h; cases h
      rw [upd_ne hb]
      refine s4 _ _ ?_
      rw [upd_ne hb]
      exact s2 _ _ (sH1 _ _ h)
    · unfold EL
      rw [upd_ne (fun z => by rw [z, hp4] at E4; cases E4)]
      exact E4
    · by_cases z : e = p
      · exact ⟨_, by rw [z]; exact upd_same⟩
      · exact ⟨o, by rw [upd_ne z]; exact s2 _ _ (sH1 _ _ h)⟩
def sp_part (C : Addr) : Sp := fun vs H Q _ => ∃ (p : Addr) (ps : List Pc) (n lo hi : Nat), vs = [.ref p, .int lo, .int hi] ∧ KW C H p ps ∧ OK n ps ∧ 2 * n ≤ 1000 ∧ (∀ p ∈ ps, p.1 ≠ []) ∧ lo ≤ hi ∧ hi ≤ long ps ∧
  ∀ p H', Same H H' → H p = none → KWf C H H' p (part ps lo hi) → Q (.ref p) H'
theorem m_KeptWord_part (T : Txt K mg C) : C8.Met P w K mg base 8 C "part" (sp_part C) [] := by
  refine metF T.k_KeptWord T.d_KeptWord_part sc_KeptWord_part (fun vs H Q E h => ?_) (fun f cdv A outer s H vs Q E hr h => ?_)
  · obtain ⟨_, _, _, _, _, rfl, _⟩ := h; rfl
  · obtain ⟨p, ps, n, lo, hi, rfl, kw, ok, hn, ne, hle, hhi, q⟩ := h
    obtain ⟨dx, l, e, hp, hl, he⟩ := id kw
    have cl := T.k_KeptWord.ins.cl
    have nol : (KF l e).lookup ("length" : Str) = none := kf_no l e (by decide +kernel) (by decide +kernel)
    refine ⟨_, (pss_cons (ps_expr (C8.pe_c (c_need_within T) hr (by decide) (by rfl) (pa_cons (pv 1) (pa_cons pe_int (pa_cons (C8.pe_mt0 (m_KeptWord_length T) hr (by decide) (pv 0)) pa_nil)))))
    (pss_cons (ps_expr (C8.pe_c (c_need_within T) hr (by decide) (by rfl) (pa_cons (pv 2) (pa_cons (pv 1) (pa_cons (C8.pe_mt0 (m_KeptWord_length T) hr (by decide) (pv 0)) pa_nil)))))
    (pss_one (ps_ret (C8.pe_c (c_kept_of T) hr (by decide) (by rfl) (pa_cons (C8.pe_c (c_stretch_of T) hr (by decide) (by rfl) (pa_cons (pe_fld (pv 0) rfl) (pa_cons (pe_fld (pv 0) rfl) (pa_cons (pv 1) (pa_cons (pv 2) pa_nil))))) pa_nil)))))), ?_⟩
    refine ⟨_, rfl, _, rfl, p, dx, _, rfl, hp, nol, p, ps, rfl, kw, lo, 0, _, rfl, by omega, by omega, ?_⟩
    refine ⟨_, rfl, _, rfl, _, rfl, p, dx, _, rfl, hp, nol, p, ps, rfl, kw, hi, lo, _, rfl, by omega, by omega, ?_⟩
    refine ⟨_, rfl, p, C, dx, _, _, rfl, hp, cl, T.f_pieces, kf_p l e, _, rfl, p, C, dx, _, _, rfl, hp, cl, T.f_ends, kf_e l e, _, rfl, _, rfl, l, e, ps, n, lo, hi, rfl, hl, he, ok, by omega, ne, hle, fun r H1 s1 n1 P1 => ?_⟩
    exact ⟨r, _, 2 * n, rfl, P1, ok.cut ne, hn, fun p' H2 s2 n2 k2 => q p' H2 (s1.trans s2) (s1.free n2) (k2.pre s1)⟩
end
end K04K

set_option Elab.async false
set_option linter.all false
set_option maxRecDepth 100000
set_option maxHeartbeats 4000000
namespace K04K
open K04 PySem PySem.Spec PyProof.Rows L2 CK SX KM
section
variable {P : Program} {w : World} {K : PySem.W.Frag} {mg : Str → Option Value} {base : Heap} {C : Addr}
/-! ### the law's own defs -/
theorem fm0 {i j : Int} (h : 0 < j) : 0 ≤ i.fmod j := Int.fmod_nonneg_of_pos i h
theorem fm1 {i j : Int} (h : 0 < j) : i.fmod j < j := Int.fmod_lt_of_pos i h
theorem ab {i : Int} {k : Nat} (h0 : 0 ≤ i) (h : i < 2 ^ k) : i.natAbs < 2 ^ k := by
  have e : ((2 ^ k : Nat) : Int) = 2 ^ k := by simp
  omega
def sp_hash : Sp := fun vs H Q _ => ∃ s i : Int, vs = [.int s, .int i] ∧ 0 ≤ s ∧ s < 2 ^ 31 ∧ 0 ≤ i ∧ i < 2 ^ 41 ∧ ∀ r : Int, 0 ≤ r → r < 2 ^ 31 → Q (.int r) H
theorem c_law_hash (T : Txt K mg C) : C8.Cal P w K mg base 1 "_law_hash" sp_hash [] := by
  refine calF T.d_law_hash sc_law_hash (fun vs H Q E h => ?_) (fun f cdv A outer s H vs Q E hr h => ?_)
  · obtain ⟨_, _, rfl, _⟩ := h; rfl
  · obtain ⟨z, i, rfl, h0, h1, h2, h3, q⟩ := h
    refine ⟨_, (pss_cons (ps_set (i := 2) sc_law_hash.nd rfl (Or.inl rfl) (pe_op op_modN (pe_callTy call_int1 (by rfl) T.m_int (by decide +kernel) (pa_cons (pe_op op_add (pe_op op_add (pe_op op_add (pe_op op_mulW (pv 0) pe_int) (pe_op op_mulW (pe_op op_mulW pe_int (pv 1)) (pv 1))) (pv 1)) pe_int) pa_nil)) pe_int))
    (pss_cons (ps_set (i := 2) sc_law_hash.nd rfl (Or.inl rfl) (pe_op op_modN (pe_callTy call_int1 (by rfl) T.m_int (by decide +kernel) (pa_cons (pe_op op_add (pe_op op_mulW (pv 2) (pv 2)) pe_int) pa_nil)) pe_int))
    (pss_one (ps_ret (pe_op op_modN (pe_callTy call_int1 (by rfl) T.m_int (by decide +kernel) (pa_cons (pe_op op_mulW (pv 2) pe_int) pa_nil)) pe_int))))), ?_⟩
    have a1 : z.natAbs < 2 ^ 100 := ab h0 (by omega)
    have a2 : i.natAbs < 2 ^ 100 := ab h2 (by omega)
    have a3 : ((7919 : Int)).natAbs < 2 ^ 100 := by decide
    have a4 := wide_lt a3 a2
    refine ⟨_, rfl, z, _, rfl, rfl, wide_mul a1 (show ((1103515245 : Int)).natAbs < 2 ^ 100 by decide) (by decide) (by decide) (by decide), ?_⟩
    refine ⟨_, rfl, _, i, rfl, rfl, wide_mul a3 a2 (by decide) (by decide) (by decide), _, rfl, _, i, rfl, rfl, wide_mul a4 a2 (by decide) (by decide) (by decide), _, _, rfl, rfl, ?_⟩
    refine ⟨_, rfl, _, _, rfl, rfl, _, _, rfl, rfl, .inl ⟨_, rfl, _, _, rfl, rfl, (by decide : (2147483647 : Int) ≠ 0), ?_⟩⟩
    obtain ⟨m, hm⟩ : ∃ m, (z * 1103515245 + 7919 * i * i + i + 1).fmod 2147483647 = m := ⟨_, rfl⟩
    have m0 : 0 ≤ m := by rw [← hm]; exact fm0 (by decide)
    have m1 : m < 2147483647 := by rw [← hm]; exact fm1 (by decide)
    have a5 : m.natAbs < 2 ^ 100 := ab m0 (by omega)
    refine ⟨_, rfl, _, rfl, m, m, congrArg V.int hm, congrArg V.int hm, wide_mul a5 a5 (by decide) (by decide) (by decide), ?_⟩
    refine ⟨_, _, rfl, rfl, .inl ⟨_, rfl, _, _, rfl, rfl, (by decide : (2147483629 : Int) ≠ 0), ?_⟩⟩
    obtain ⟨k, hk⟩ : ∃ k, (m * m + 69621).fmod 2147483629 = k := ⟨_, rfl⟩
    have k0 : 0 ≤ k := by rw [← hk]; exact fm0 (by decide)
    have k1 : k < 2147483629 := by rw [← hk]; exact fm1 (by decide)
    have a6 : k.natAbs < 2 ^ 100 := ab k0 (by omega)
    refine ⟨_, rfl, k, _, congrArg V.int hk, rfl, wide_mul a6 (show ((48271 : Int)).natAbs < 2 ^ 100 by decide) (by decide) (by decide) (by decide), .inl ⟨_, rfl, _, _, rfl, rfl, (by decide : (2147483587 : Int) ≠ 0), ?_⟩⟩
    exact q _ (fm0 (by decide)) (Int.lt_trans (fm1 (by decide)) (by decide))
def sp_random : Sp := fun vs H Q _ => ∃ (g : Addr) (b : Int) (n : Nat), vs = [.ref g, .int b] ∧ Gn (n + 1) H g ∧ 1 ≤ b ∧ b < 2 ^ 200 ∧ ∀ (r : Int) H', SameX g H H' → Gn n H' g → 0 ≤ r → r < b → Q (.int r) H'
theorem pow32 (i : Nat) : (2 : Int) ^ (32 * (i + 1)) = 2 ^ (32 * i) * 4294967296 := by
  rw [Nat.mul_add, Int.pow_add]
  rfl
theorem pow_ge1 (i : Nat) : (1 : Int) ≤ 2 ^ i := by
  have := Int.pow_pos (n := 2) (m := i) (by decide)
  omega
theorem c_law_random (T : Txt K mg C) : C8.Cal P w K mg base 2 "_law_random" sp_random [] := by
  refine calF T.d_law_random sc_law_random (fun vs H Q E h => ?_) (fun f cdv A outer s H vs Q E hr h => ?_)
  · obtain ⟨_, _, _, rfl, _⟩ := h; rfl
  · obtain ⟨g, b, n, rfl, G, hb, hb2, q⟩ := h
    refine ⟨_, (pss_cons (ps_if (pt_cmpR op_gt (pe_ix ix_list (pv 0) pe_int (fun _ _ => rfl)) pe_int (nomark _))
    (pss_cons (ps_set (i := 2) sc_law_random.nd rfl (Or.inl rfl) (pe_op op_modN (pe_callTy call_int1 (by rfl) T.m_int (by decide +kernel) (pa_cons (pe_ix ix_list (pv 0) pe_int (fun _ _ => rfl)) pa_nil)) (pv 1)))
    (pss_cons (ps_asg (pe_op op_fdivW (pe_ix ix_list (pv 0) pe_int (fun _ _ => rfl)) (pv 1)) (pg_sub (pv 0) pe_int set_list))
    (pss_one (ps_ret (pv 2)))))
    pss_nil)
    (pss_cons (ps_set (i := 2) sc_law_random.nd rfl (Or.inl rfl) pe_int)
    (pss_cons (ps_for PassesOwn.never rfl (pi_range1 (by rfl) T.m_range (pa_cons (pe_op op_add pe_int (pe_op op_fdivW (pe_bits (pv 1)) pe_int)) pa_nil)) (pg_name (i := 3) sc_law_random.nd rfl (Or.inl rfl))
    (pss_cons (ps_asg (pe_op op_add (pe_ix ix_list (pv 0) pe_int (fun _ _ => rfl)) pe_int) (pg_sub (pv 0) pe_int set_list))
    (pss_one (ps_set (i := 2) sc_law_random.nd rfl (Or.inl rfl) (pe_op op_add (pe_op op_mulW (pv 2) pe_int) (C8.pe_c (c_law_hash T) hr (by decide) (by rfl) (pa_cons (pe_ix ix_list (pv 0) pe_int (fun _ _ => rfl)) (pa_cons (pe_ix ix_list (pv 0) pe_int (fun _ _ => rfl)) pa_nil))))))))
    (pss_one (ps_ret (pe_op op_modN (pe_callTy call_int1 (by rfl) T.m_int (by decide +kernel) (pa_cons (pv 2) pa_nil)) (pv 1))))))), ?_⟩
    obtain ⟨x, y, c, hg, x0, y0, y1, c0, c1⟩ := G
    refine ⟨_, rfl, g, _, 0, .int x, rfl, rfl, .inl (.inl hg), atI_nat (j := 0) rfl, x, 0, rfl, rfl, _, rfl, ite2 (fun e => ?_) (fun e => ?_)⟩
    · -- a digit
      refine ⟨_, rfl, g, _, 0, .int x, rfl, rfl, .inl (.inl hg), atI_nat (j := 0) rfl, .inl ⟨x, rfl, _, rfl, x, b, rfl, rfl, by omega, ?_⟩⟩
      refine ⟨_, rfl, g, _, 0, .int x, rfl, rfl, .inl (.inl hg), atI_nat (j := 0) rfl, _, rfl, x, b, rfl, rfl, wide_div (b := 200) (by omega) (ab (by omega) hb2) (by decide) (by decide), _, rfl, g, _, 0, 0, rfl, rfl, hg, rfl, ?_⟩
      exact ⟨_, rfl, q _ _ sameX_upd ⟨x / b, y, c, upd_same, Int.ediv_nonneg x0 (by omega), y0, y1, c0, by omega⟩ (fm0 (by omega)) (fm1 (by omega))⟩
    · -- by the hash
      have ib : Builtin.Int.intBits b ≤ 200 := intBits_le (ab (by omega) hb2)
      have tn : (1 + ((Builtin.Int.intBits b : Nat) : Int) / 30).toNat ≤ 7 := by omega
      refine ⟨_, rfl, b, rfl, _, _, rfl, rfl, wide_div (b := 200) (by decide) (by decide) (by decide) (by decide), _, _, rfl, rfl, _, rfl, by omega, by omega, ?_⟩
      refine for_it walk_range (fun i σ H3 => ∃ (d : Int) (y3 : Option V) (c3 : Int), σ = [some (.ref g), some (.int b), some (.int d), y3] ∧ SameX g H H3 ∧ H3 g = some (.lst [.int x, .int y, .int c3]) ∧ c3 = c + i ∧ 0 ≤ d ∧ d < 2 ^ (32 * i) ∧ i ≤ 7)
        ⟨0, none, c, rfl, .refl _ _, hg, by simp, Int.le_refl _, by decide, by decide⟩ (fun _ _ _ _ _ => True.intro) (fun i v σ H3 H4 hi p yy => ?_) fun σ H3 p => ?_
      · obtain ⟨d, y3, c3, rfl, s3, g3, ec, d0, d1, i7⟩ := p
        obtain ⟨rfl, rfl⟩ := yy
        have i6 : i ≤ 6 := by omega
        have u1 : (upd H4 g (.lst [.int x, .int y, .int (c3 + 1)])) g = some (.lst [.int x, .int y, .int (c3 + 1)]) := upd_same
        refine ⟨_, rfl, g, _, 2, .int c3, rfl, rfl, .inl (.inl g3), atI_nat (j := 2) rfl, _, _, rfl, rfl, _, rfl, g, _, 2, 2, rfl, rfl, g3, rfl, ?_⟩
        have ad : d.natAbs < 2 ^ (32 * i + 1) := ab d0 (Int.lt_of_lt_of_le d1 (by rw [Int.pow_succ]; have := pow_ge1 (32 * i); omega))
        refine ⟨_, rfl, d, _, rfl, rfl, wide_mul ad (show ((2147483587 : Int)).natAbs < 2 ^ 100 by decide) (by omega) (by decide) (by omega), ?_⟩
        refine ⟨_, rfl, g, _, 1, .int y, rfl, rfl, .inl (.inl u1), atI_nat (j := 1) rfl, _, rfl, g, _, 2, .int (c3 + 1), rfl, rfl, .inl (.inl u1), atI_nat (j := 2) rfl, y, c3 + 1, rfl, y0, y1, by omega, by omega, fun r r0 r1 => ⟨_, _, rfl, rfl, ?_⟩⟩
        refine ⟨_, _, c3 + 1, rfl, fun z o nz e => by rw [upd_ne nz]; exact s3 z o nz e, u1, by omega, by have : 0 ≤ d * 2147483587 := Int.mul_nonneg d0 (by decide); omega, ?_, by omega⟩
        rw [pow32]
        have := pow_ge1 (32 * i)
        omega
      · obtain ⟨d, y3, c3, rfl, s3, g3, ec, d0, d1, i7⟩ := p
        refine ⟨_, rfl, .inl ⟨d, rfl, _, rfl, d, b, rfl, rfl, by omega, ?_⟩⟩
        exact q _ _ s3 ⟨x, y, c3, g3, x0, y0, y1, by omega, by omega⟩ (fm0 (by omega)) (fm1 (by omega))
def sp_cell (K : PySem.W.Frag) : Sp := fun vs H Q _ => ∃ (a : Addr) (ns : List Int) (i : Nat), vs = [.ref a, .int i] ∧ SqL K H a (ns.map V.int) ∧ ∀ (r : Int) H', Same H H' → Q (.int r) H'
theorem c_law_cell (T : Txt K mg C) : C8.Cal P w K mg base 1 "_law_cell" (sp_cell K) [] := by
  refine calF T.d_law_cell sc_law_cell (fun vs H Q E h => ?_) (fun f cdv A outer s H vs Q E hr h => ?_)
  · obtain ⟨_, _, _, rfl, _⟩ := h; rfl
  · obtain ⟨a, ns, i, rfl, ha, q⟩ := h
    refine ⟨_, (pss_cons (ps_if (pt_cmpR op_lt (pv 1) (pe_callB call_len_seq (by rfl) T.m_len (by decide +kernel) (pa_cons (pv 0) pa_nil)) (nomark _))
    (pss_one (ps_ret (pe_ix ix_list (pv 0) (pv 1) (fun _ _ => rfl))))
    pss_nil)
    (pss_one (ps_ret (pe_op op_modN (pe_callB (cr_sum rfl) (by rfl) T.m_sum (by decide +kernel) (pa_cons (pe_slice sl_list (pv 0) po_none (po_some pe_int)) pa_nil)) pe_int)))), ?_⟩
    refine ⟨_, rfl, _, rfl, a, _, rfl, .inl ha, _, _, rfl, rfl, _, rfl, ite2 (fun e => ?_) (fun e => ?_)⟩
    · have e' := of_decide_eq_true e
      rw [List.length_map] at e'
      have hi : i < ns.length := by omega
      refine ⟨_, rfl, _, rfl, a, _, i, .int ns[i], rfl, rfl, ha, atI_nat ?_, q _ H (Same.refl _)⟩
      rw [List.getElem?_map, List.getElem?_eq_getElem hi]
      rfl
    · refine ⟨_, rfl, 1, rfl, a, _, rfl, ha, fun p hp => ?_⟩
      refine ⟨p, ns.take 1, rfl, .inl (.inl ?_), _, _, rfl, rfl, (by decide : (1000003 : Int) ≠ 0), q _ _ (sameNew hp)⟩
      rw [upd_same, show ((1 : Int)) = ((1 : Nat) : Int) from rfl, cutV_take, List.map_take]
def sp_generator (K : PySem.W.Frag) : Sp := fun vs H Q _ => ∃ (a : Addr) (ns : List Int) (i : Nat), vs = [.ref a, .int i] ∧ SqL K H a (ns.map V.int) ∧ i ≤ 10 ∧ ∀ g H1 H', Same H H1 → H1 g = none → Same H1 H' → Gn 100000 H' g → Q (.ref g) H'
theorem c_law_generator (T : Txt K mg C) : C8.Cal P w K mg base 2 "_law_generator" (sp_generator K) [] := by
  refine calF T.d_law_generator sc_law_generator (fun vs H Q E h => ?_) (fun f cdv A outer s H vs Q E hr h => ?_)
  · obtain ⟨_, _, _, rfl, _⟩ := h; rfl
  · obtain ⟨a, ns, i, rfl, ha, hi, q⟩ := h
    refine ⟨_, (pss_cons (ps_set (i := 2) sc_law_generator.nd rfl (Or.inl rfl) (C8.pe_c (c_law_cell T) hr (by decide) (by rfl) (pa_cons (pv 0) (pa_cons (pv 1) pa_nil))))
    (pss_one (ps_ret (pe_lst (pa_cons (pe_op op_modN (pe_callTy call_int1 (by rfl) T.m_int (by decide +kernel) (pa_cons (pe_callB (call_max2 rfl) (by rfl) T.m_max (by decide +kernel) (pa_cons (pe_op op_sub (pv 2) (pe_op op_powB pe_int pe_int)) (pa_cons pe_int pa_nil))) pa_nil)) (pe_op op_powB (pe_op op_powB pe_int pe_int) pe_int)) (pa_cons (pe_op op_modN (pe_callTy call_int1 (by rfl) T.m_int (by decide +kernel) (pa_cons (pv 2) pa_nil)) pe_int) (pa_cons (pe_op op_mulW pe_int (pv 1)) pa_nil))))))), ?_⟩
    refine ⟨_, rfl, _, rfl, a, ns, i, rfl, ha, fun r H1 s1 => ?_⟩
    refine ⟨_, rfl, _, _, rfl, rfl, ⟨by decide, by decide⟩, _, _, rfl, rfl, _, _, rfl, .inl ⟨_, rfl, _, _, rfl, rfl, ⟨by decide, by decide⟩, _, _, rfl, rfl, ⟨by decide, by decide⟩, _, _, rfl, rfl, (by decide : ((10 : Int) ^ Int.toNat 60) ^ Int.toNat 10 ≠ 0), ?_⟩⟩
    refine ⟨_, rfl, .inl ⟨_, rfl, _, _, rfl, rfl, (by decide : (2147483647 : Int) ≠ 0), ?_⟩⟩
    refine ⟨_, rfl, _, _, rfl, rfl, wide_mul (show ((1000 : Int)).natAbs < 2 ^ 100 by decide) (show ((i : Int)).natAbs < 2 ^ 100 by omega) (by decide) (by decide) (by decide), by show 3 ≤ sizeLine; decide, fun g hg => ?_⟩
    refine q g H1 _ s1 hg (sameNew hg) ⟨_, _, _, upd_same, fm0 (by decide), fm0 (by decide), Int.lt_trans (fm1 (by decide)) (by decide), by omega, by omega⟩
end
end K04K

set_option Elab.async false
set_option linter.all false
set_option maxRecDepth 100000
set_option maxHeartbeats 4000000
namespace K04K
open K04 PySem PySem.Spec PyProof.Rows L2 CK SX KM
/-- a comprehension over a range that draws: what its items are is told by Pz -/
theorem lcP_draw {lo : Int} {g : Addr} {n cnt j : Nat} (Pz : V → Prop) {te : TE} {vs : List Nat} {σ : L2.St} {H1 : Hp} {D : Addr} {Qd : Hp → Prop} (hc : cnt < sizeLine) (hD : H1 D = none) (hg : Gn (n + cnt) H1 g)
    (hs : ∀ (i : Nat) (H : Hp) (R : VK), i < cnt → SameX g H1 H → Gn (n + (cnt - (i + 1)) + 1) H g → (∀ (r : V) H', SameX g H H' → Gn (n + (cnt - (i + 1))) H' g → Pz r → R r H') →
      wipe ((wipe σ vs).set j (some (.int (lo + i)))) vs = wipe σ vs ∧ te ((wipe σ vs).set j (some (.int (lo + i)))) H R)
    (hd : ∀ (H : Hp) (ns : List V), SameX g H1 H → Gn n H g → H D = some (.lst ns) → ns.length = cnt → (∀ x ∈ ns, Pz x) → Qd H) :
    ∃ W : Nat → Nat → Hp → Prop, (∃ m, W 0 m (L2.upd H1 D (.lst []))) ∧ ∀ i m H, W i m H →
      ((Itr lo cnt).stop i H ∧ Qd H) ∨ ((Itr lo cnt).go i H ∧ ∃ Nx : Hp → Prop, (∀ H', Nx H' → ∃ m', m' < m ∧ W (i + 1) m' H') ∧ ∀ x H', (Itr lo cnt).yld i H x H' → gName j x (wipe σ vs) H' fun σ2 H2 => wipe σ2 vs = wipe σ vs ∧ tYes σ2 H2 fun b H3 =>
        if b = true then te σ2 H3 fun y H4 => ∃ acc, H4 D = some (.lst acc) ∧ acc.length < sizeLine ∧ Nx (L2.upd H4 D (.lst (acc ++ [y]))) else Nx H3) := by
  have hDg := hg.ne hD
  refine lc_range (fun i H => SameX g H1 H ∧ Gn (n + (cnt - i)) H g ∧ i ≤ cnt ∧ ∃ ns : List V, H D = some (.lst ns) ∧ ns.length = i ∧ ∀ x ∈ ns, Pz x)
    ⟨sameX_new hD, hg.upd hDg, Nat.zero_le _, [], upd_same, rfl, fun x h => absurd h List.not_mem_nil⟩ (fun i H hi p => ?_) fun H p => ?_
  · obtain ⟨s, G, _, ns, hL, hl, hb⟩ := p
    have G1 : Gn (n + (cnt - (i + 1)) + 1) H g := by
      have e : n + (cnt - (i + 1)) + 1 = n + (cnt - i) := by omega
      rw [e]
      exact G
    refine hs i H _ hi s G1 fun r H' s' G' h0 => ⟨_, s' D _ hDg hL, by omega, (s.trans s').upd2 hD, G'.upd hDg, hi, ns ++ [r], upd_same, ?_, fun x hx => ?_⟩
    · rw [List.length_append, hl]
      rfl
    · rcases List.mem_append.mp hx with z | z
      · exact hb x z
      · rw [List.mem_singleton.mp z]
        exact h0
  · obtain ⟨s, G, _, ns, hL, hl, hb⟩ := p
    rw [Nat.sub_self] at G
    exact hd H ns s G hL hl hb
theorem abc_at : ∀ j : Fin 26, (Str.ofString "abcdefghijklmnopqrstuvwxyz").cps.toList[j.val]? = some (97 + j.val) := by decide +kernel
theorem abc_len : (Str.ofString "abcdefghijklmnopqrstuvwxyz").length ≤ sizeLine := by
  rw [sizeLine_eq]
  decide +kernel
theorem join_one : ∀ cs : List Nat, TL.joinL [] (cs.map fun c => [c]) = cs
  | [] => rfl
  | [c] => rfl
  | c :: d :: r => by
    show [c] ++ ([] ++ TL.joinL [] ((d :: r).map fun c => [c])) = _
    rw [join_one (d :: r)]
    rfl
theorem empty_S : (Str.ofString "" : Str) = S [] := by decide +kernel
theorem join_S1 (cs : List Nat) : Txt.join (Str.ofString "") (cs.map fun c => S [c]) = S cs := by
  rw [empty_S]
  have := join_S [] (cs.map fun c => [c])
  rw [List.map_map] at this
  rw [show (cs.map fun c => S [c]) = cs.map (S ∘ fun c => [c]) from rfl, this, join_one]
/-- three letters -/
def LT (H : Hp) (l : Addr) (cs : List Nat) : Prop := H l = some (.lst (cs.map fun c => V.str (S [c]))) ∧ cs.length = 3 ∧ Low cs
theorem LT.sameX {g : Addr} {H H' : Hp} {l : Addr} {cs : List Nat} (h : LT H l cs) (s : SameX g H H') (n : l ≠ g) : LT H' l cs := ⟨s _ _ n h.1, h.2⟩
section
variable {P : Program} {w : World} {K : PySem.W.Frag} {mg : Str → Option Value} {base : Heap} {C : Addr}
/-- three letters, no two of them the same -/
def Dist (cs : List Nat) : Prop := ∃ a b c, cs = [a, b, c] ∧ a ≠ b ∧ a ≠ c ∧ b ≠ c
def sp_letters : Sp := fun vs H Q _ => ∃ (g : Addr) (n : Nat), vs = [.ref g] ∧ Gn (n + 2) H g ∧ ∀ l cs H', SameX g H H' → Gn n H' g → H l = none → LT H' l cs → Dist cs → Q (.ref l) H'
def steps12 : List Int := [1, 3, 5, 7, 9, 11, 15, 17, 19, 21, 23, 25]
theorem c_law_letters (T : Txt K mg C) : C8.Cal P w K mg base 3 "_law_letters" sp_letters [] := by
  refine calF T.d_law_letters sc_law_letters (fun vs H Q E h => ?_) (fun f cdv A outer s H vs Q E hr h => ?_)
  · obtain ⟨_, _, rfl, _⟩ := h; rfl
  · obtain ⟨g, n, rfl, G, q⟩ := h
    refine ⟨_, (pss_cons (ps_asg (pe_tup (pa_cons (C8.pe_c (c_law_random T) hr (by decide) (by rfl) (pa_cons (pv 0) (pa_cons pe_int pa_nil))) (pa_cons (pe_ix ix_list (pe_lst (pa_cons pe_int (pa_cons pe_int (pa_cons pe_int (pa_cons pe_int (pa_cons pe_int (pa_cons pe_int (pa_cons pe_int (pa_cons pe_int (pa_cons pe_int (pa_cons pe_int (pa_cons pe_int (pa_cons pe_int pa_nil))))))))))))) (C8.pe_c (c_law_random T) hr (by decide) (by rfl) (pa_cons (pv 0) (pa_cons pe_int pa_nil))) (fun _ _ => rfl)) pa_nil))) (pg_two (K := K) (i := 1) (j := 2) rfl rfl sc_law_letters.nd rfl rfl (Or.inr rfl) (Or.inr rfl)))
    (pss_one (ps_ret (pe_lc (own := [("_law_at", 3)]) (by rfl) sc_law_letters.nd (pi_range1 (by rfl) T.m_range (pa_cons pe_int pa_nil)) (blkOk_by (N := ["_law_generator_here", "_law_start", "_law_step", "_law_at"]) (sc := C8.fnScope (topS 45)) (own := [("_law_at", 3)]) (by decide +kernel)) (fun _ _ _ _ _ => (pg_name (i := 3) sc_law_letters.nd rfl (Or.inl rfl))) (fun _ _ _ _ _ => pts_nil) (fun _ _ _ _ _ => (pe_ix ix_str pe_str (pe_op op_modN (pe_callTy call_int1 (by rfl) T.m_int (by decide +kernel) (pa_cons (pe_op op_add (pv 1) (pe_op op_mulW (pv 2) (pv 3))) pa_nil)) pe_int) (fun _ _ => rfl))))))), ?_⟩
    refine ⟨_, rfl, g, 26, n + 1, rfl, G, by decide, by decide, fun r H1 s1 G1 r0 r1 => ?_⟩
    refine ⟨by show 12 ≤ sizeLine; decide, fun L hL => ?_⟩
    have Lg := G1.ne hL
    refine ⟨_, rfl, g, 12, n, rfl, G1.upd Lg, by decide, by decide, fun r2 H2 s2 G2 r20 r21 => ?_⟩
    have hL2 := s2 _ _ Lg upd_same
    obtain ⟨st, hst⟩ : ∃ st : Int, atI (steps12.map V.int) r2 = some (.int st) ∧ 0 ≤ st ∧ st < 30 ∧ st % 26 ≠ 0 ∧ 2 * st % 26 ≠ 0 := by
      have e : r2 = ((r2.toNat : Nat) : Int) := by omega
      have h : ∀ j : Fin 12, ∃ st : Int, (steps12.map V.int)[j.val]? = some (.int st) ∧ 0 ≤ st ∧ st < 30 ∧ st % 26 ≠ 0 ∧ 2 * st % 26 ≠ 0 := by
        intro j
        have hj : j.val < steps12.length := j.isLt
        refine ⟨steps12[j.val], by rw [List.getElem?_map, List.getElem?_eq_getElem hj]; rfl, ?_⟩
        have : ∀ j : Fin 12, 0 ≤ steps12[j.val]'j.isLt ∧ steps12[j.val]'j.isLt < 30 ∧ steps12[j.val]'j.isLt % 26 ≠ 0 ∧ 2 * steps12[j.val]'j.isLt % 26 ≠ 0 := by decide
        exact this j
      obtain ⟨st, a, b⟩ := h ⟨r2.toNat, by omega⟩
      exact ⟨st, by rw [e]; exact atI_nat a, b⟩
    refine ⟨L, _, r2, .int st, rfl, rfl, .inl (.inl hL2), hst.1, by show 2 ≤ sizeLine; decide, fun t ht => ?_⟩
    refine ⟨t, _, rfl, .inl (.inl upd_same), rfl, _, _, rfl, _, _, rfl, rfl, ?_⟩
    refine ⟨3, rfl, by decide, by decide, fun D hD => ?_⟩
    have st2 := sameNew (o := .tup [V.int r, V.int st]) ht
    refine lcR_map (lo := 0) (n := 3) (fun i => .str (S [97 + ((r + st * (0 + (i : Int))).fmod 26).toNat])) (small1000 (by decide)) (fun i H3 R hi s3 q' => ?_) hD fun H3 s3 hL3 => ?_
    · have hm : ∀ x : Int, 0 ≤ x.fmod 26 ∧ x.fmod 26 < 26 := fun x => ⟨fm0 (by decide), fm1 (by decide)⟩
      have hx := hm (r + st * (0 + (i : Int)))
      refine ⟨rfl, _, rfl, _, rfl, _, rfl, st, 0 + (i : Int), rfl, rfl, wide_mul (show st.natAbs < 2 ^ 100 by omega) (show (0 + (i : Int)).natAbs < 2 ^ 100 by omega) (by decide) (by decide) (by decide), _, _, rfl, rfl, .inl ⟨_, rfl, _, _, rfl, rfl, (by decide : (26 : Int) ≠ 0), ?_⟩⟩
      refine ⟨_, _, 97 + ((r + st * (0 + (i : Int))).fmod 26).toNat, rfl, rfl, abc_len, ?_, q' _ (Same.refl _)⟩
      have := abc_at ⟨((r + st * (0 + (i : Int))).fmod 26).toNat, by omega⟩
      have e : (r + st * (0 + (i : Int))).fmod 26 = ((((r + st * (0 + (i : Int))).fmod 26).toNat : Nat) : Int) := by omega
      have h2 := atI_nat this
      rw [← e] at h2
      exact h2
    · refine q D ((List.range 3).map fun (i : Nat) => 97 + ((r + st * (0 + (i : Int))).fmod 26).toNat) H3 (fun b o hb h => ?_) ?_ ?_ ⟨by rw [hL3, List.map_map]; rfl, by simp, fun c hc => ?_⟩ ?_
      · refine s3 _ _ (st2 _ _ (s2 _ _ hb ?_))
        have := s1 _ _ hb h
        exact sameNew hL _ _ this
      · exact (G2.same st2).same s3
      · cases e : H D with
        | none => rfl
        | some o =>
          by_cases hDg : D = g
          · rw [hDg] at hD
            obtain ⟨xs, hx⟩ := (G2.same st2).at
            rw [hx] at hD
            cases hD
          · have := st2 _ _ (s2 _ _ hDg (sameNew hL _ _ (s1 _ _ hDg e)))
            rw [this] at hD
            cases hD
      · obtain ⟨i, _, rfl⟩ := List.mem_map.mp hc
        have hx : 0 ≤ (r + st * (0 + (i : Int))).fmod 26 ∧ (r + st * (0 + (i : Int))).fmod 26 < 26 := ⟨fm0 (by decide), fm1 (by decide)⟩
        omega
      · have fe : ∀ x : Int, x.fmod 26 = x % 26 := fun x => Int.fmod_eq_emod_of_nonneg _ (by decide)
        obtain ⟨_, h2, h3, h4, h5⟩ := hst
        have c0 : ((1 : Nat) : Int) = 1 := rfl
        have c1 : ((2 : Nat) : Int) = 2 := rfl
        refine ⟨_, _, _, rfl, ?_, ?_, ?_⟩
        · show 97 + ((r + st * (0 + ((0 : Nat) : Int))).fmod 26).toNat ≠ 97 + ((r + st * (0 + ((1 : Nat) : Int))).fmod 26).toNat
          rw [fe, fe, c0]
          omega
        · show 97 + ((r + st * (0 + ((0 : Nat) : Int))).fmod 26).toNat ≠ 97 + ((r + st * (0 + ((2 : Nat) : Int))).fmod 26).toNat
          rw [fe, fe, c1]
          omega
        · show 97 + ((r + st * (0 + ((1 : Nat) : Int))).fmod 26).toNat ≠ 97 + ((r + st * (0 + ((2 : Nat) : Int))).fmod 26).toNat
          rw [fe, fe, c0, c1]
          omega
end
end K04K

set_option Elab.async false
set_option linter.all false
set_option maxRecDepth 100000
set_option maxHeartbeats 4000000
namespace K04K
open K04 PySem PySem.Spec PyProof.Rows L2 CK SX KM
theorem ones_S : ∀ {vs : List V}, (∀ v ∈ vs, ∃ c, v = V.str (S [c]) ∧ 97 ≤ c ∧ c ≤ 122) → ∃ cs : List Nat, vs = (cs.map fun c => S [c]).map V.str ∧ Low cs ∧ cs.length = vs.length
  | [], _ => ⟨[], rfl, fun c h => absurd h List.not_mem_nil, rfl⟩
  | v :: vs, h => by
    obtain ⟨c, rfl, hc⟩ := h v List.mem_cons_self
    obtain ⟨cs, rfl, lw, hl⟩ := ones_S fun u hu => h u (List.mem_cons_of_mem _ hu)
    refine ⟨c :: cs, rfl, fun d hd => ?_, by simp⟩
    rcases List.mem_cons.mp hd with z | z
    · rw [z]; exact hc
    · exact lw d z
theorem LT.get {H : Hp} {l : Addr} {cs : List Nat} (h : LT H l cs) {r : Int} (h0 : 0 ≤ r) (h1 : r < 3) : ∃ c, atI (cs.map fun c => V.str (S [c])) r = some (V.str (S [c])) ∧ 97 ≤ c ∧ c ≤ 122 := by
  obtain ⟨k, rfl⟩ : ∃ k : Nat, r = k := ⟨r.toNat, by omega⟩
  have hl : k < cs.length := by rw [h.2.1]; omega
  refine ⟨cs[k], ?_, h.2.2 _ (List.getElem_mem hl)⟩
  refine atI_nat ?_
  rw [List.getElem?_map, List.getElem?_eq_getElem hl]
  rfl
section
variable {P : Program} {w : World} {K : PySem.W.Frag} {mg : Str → Option Value} {base : Heap} {C : Addr}
def sp_word : Sp := fun vs H Q _ => ∃ (g l : Addr) (cs : List Nat) (n lo hi : Nat), vs = [.ref g, .ref l, .int lo, .int hi] ∧ LT H l cs ∧ l ≠ g ∧ Gn (n + 10) H g ∧ lo ≤ hi ∧ hi ≤ 4 ∧
  ∀ (w : List Nat) H', SameX g H H' → Gn n H' g → lo ≤ w.length → w.length ≤ hi → Low w → Q (.str (S w)) H'
theorem c_law_word (T : Txt K mg C) : C8.Cal P w K mg base 3 "_law_word" sp_word [] := by
  refine calF T.d_law_word sc_law_word (fun vs H Q E h => ?_) (fun f cdv A outer s H vs Q E hr h => ?_)
  · obtain ⟨_, _, _, _, _, _, rfl, _⟩ := h; rfl
  · obtain ⟨g, l, cs, n, lo, hi, rfl, lt, lg, G, h1, h2, q⟩ := h
    refine ⟨_, (pss_cons (ps_set (i := 4) sc_law_word.nd rfl (Or.inl rfl) (pe_op op_add (pv 2) (C8.pe_c (c_law_random T) hr (by decide) (by rfl) (pa_cons (pv 0) (pa_cons (pe_op op_add (pe_op op_sub (pv 3) (pv 2)) pe_int) pa_nil)))))
    (pss_one (ps_ret (pe_join pe_str (pe_lc (own := [("_law_at", 5)]) (by rfl) sc_law_word.nd (pi_range1 (by rfl) T.m_range (pa_cons (pv 4) pa_nil)) (blkOk_by (N := ["_law_generator_here", "_law_letters_here", "_law_least", "_law_most", "_law_many", "_law_at"]) (sc := C8.fnScope (topS 46)) (own := [("_law_at", 5)]) (by decide +kernel)) (fun _ _ _ _ _ => (pg_name (i := 5) sc_law_word.nd rfl (Or.inl rfl))) (fun _ _ _ _ _ => pts_nil) (fun _ _ _ _ _ => (pe_ix ix_listH (pv 1) (C8.pe_c (c_law_random T) hr (by decide) (by rfl) (pa_cons (pv 0) (pa_cons (pe_callB call_lenH (by rfl) T.m_len (by decide +kernel) (pa_cons (pv 1) pa_nil)) pa_nil))) (fun _ _ => rfl)))))))), ?_⟩
    refine ⟨_, rfl, _, rfl, _, rfl, _, rfl, _, _, rfl, rfl, _, _, rfl, rfl, g, _, n + 9, rfl, G, by omega, by omega, fun r H1 s1 G1 r0 r1 => ?_⟩
    refine ⟨_, _, rfl, rfl, ?_⟩
    refine ⟨⟨_, rfl⟩, _, rfl, (lo : Int) + r, rfl, by omega, by omega, fun D hD => ?_⟩
    have lt1 := lt.sameX s1 lg
    refine lcP_draw (lo := 0) (g := g) (n := n) (cnt := ((lo : Int) + r).toNat) (fun v => ∃ c, v = V.str (S [c]) ∧ 97 ≤ c ∧ c ≤ 122) (small1000 (by omega)) hD (G1.le (by omega)) (fun i H2 R hi2 s2 G2 q' => ?_) fun H3 ns s3 G3 hL hl hP => ?_
    · have lt2 := lt1.sameX s2 lg
      refine ⟨rfl, _, rfl, _, rfl, _, rfl, l, _, rfl, lt2.1, g, _, _, rfl, G2, by rw [List.length_map, lt.2.1]; decide, by rw [List.length_map, lt.2.1]; decide, fun r3 H3 s3 G3 r30 r31 => ?_⟩
      rw [List.length_map, lt.2.1] at r31
      have lt3 := lt2.sameX s3 lg
      obtain ⟨c, hc, hc2⟩ := lt3.get r30 r31
      exact ⟨l, _, r3, _, rfl, rfl, lt3.1, hc, q' _ H3 s3 G3 ⟨c, rfl, hc2⟩⟩
    · obtain ⟨ws, rfl, lw, lw2⟩ := ones_S hP
      refine ⟨Str.ofString "", D, ws.map fun c => S [c], rfl, rfl, .inl (.inl (.inl hL)), ?_, ?_⟩
      · have e : ∀ l : List Nat, ((l.map fun c => S [c]).map fun x => x.length).sum = l.length := by
          intro l
          induction l with
          | nil => rfl
          | cons c r ih => rw [List.map_cons, List.map_cons, List.sum_cons, ih, S_len]; simp; omega
        rw [e, List.length_map, show (Str.ofString "").length = 0 by decide +kernel]
        omega
      · rw [join_S1]
        exact q ws H3 (s1.trans s3) G3 (by omega) (by omega) lw
def sp_base : Sp := fun vs H Q _ => ∃ (g l : Addr) (cs : List Nat) (n : Nat), vs = [.ref g, .ref l] ∧ LT H l cs ∧ l ≠ g ∧ Gn (n + 20) H g ∧
  ∀ (w : List Nat) H', SameX g H H' → Gn n H' g → 1 ≤ w.length → w.length ≤ 4 → Low w → Q (.str (S w)) H'
theorem c_law_base (T : Txt K mg C) : C8.Cal P w K mg base 4 "_law_base" sp_base [] := by
  refine calF T.d_law_base sc_law_base (fun vs H Q E h => ?_) (fun f cdv A outer s H vs Q E hr h => ?_)
  · obtain ⟨_, _, _, _, rfl, _⟩ := h; rfl
  · obtain ⟨g, l, cs, n, rfl, lt, lg, G, q⟩ := h
    refine ⟨_, (pss_cons (ps_set (i := 2) sc_law_base.nd rfl (Or.inl rfl) (C8.pe_c (c_law_word T) hr (by decide) (by rfl) (pa_cons (pv 0) (pa_cons (pv 1) (pa_cons pe_int (pa_cons pe_int pa_nil))))))
    (pss_cons (ps_if (pt_cmpR op_gt (C8.pe_c (c_law_random T) hr (by decide) (by rfl) (pa_cons (pv 0) (pa_cons pe_int pa_nil))) pe_int (nomark _))
    (pss_one (ps_ret (pv 2)))
    pss_nil)
    (pss_cons (ps_set (i := 3) sc_law_base.nd rfl (Or.inl rfl) (C8.pe_c (c_law_random T) hr (by decide) (by rfl) (pa_cons (pv 0) (pa_cons (pe_callB call_len_str (by rfl) T.m_len (by decide +kernel) (pa_cons (pv 2) pa_nil)) pa_nil))))
    (pss_one (ps_ret (pe_op op_add_str (pe_op op_add_str (pe_op op_repS (pe_ix ix_list (pv 1) pe_int (fun _ _ => rfl)) (pv 3)) (pe_ix ix_list (pv 1) pe_int (fun _ _ => rfl))) (pe_op op_repS (pe_ix ix_list (pv 1) pe_int (fun _ _ => rfl)) (pe_op op_sub (pe_op op_sub (pe_callB call_len_str (by rfl) T.m_len (by decide +kernel) (pa_cons (pv 2) pa_nil)) pe_int) (pv 3))))))))), ?_⟩
    refine ⟨_, rfl, _, rfl, g, l, cs, n + 10, 1, 4, rfl, lt, lg, G, by decide, by decide, fun w H1 s1 G1 w1 w4 lw => ?_⟩
    refine ⟨_, rfl, g, 3, n + 9, rfl, G1, by decide, by decide, fun r H2 s2 G2 r0 r1 => ?_⟩
    refine ⟨_, _, rfl, rfl, _, rfl, ite2 (fun e => ?_) (fun e => ?_)⟩
    · exact ⟨_, rfl, q w H2 (s1.trans s2) (G2.le (by omega)) w1 w4 lw⟩
    · refine ⟨_, rfl, _, rfl, S w, rfl, len_line (by omega), g, _, n + 8, rfl, G2, by rw [S_len]; omega, by rw [S_len]; omega, fun k H3 s3 G3 k0 k1 => ?_⟩
      rw [S_len] at k1
      have lt3 := ((lt.sameX s1 lg).sameX s2 lg).sameX s3 lg
      obtain ⟨c0, hc0, hb0⟩ := lt3.get (r := 0) (by decide) (by decide)
      obtain ⟨c1, hc1, hb1⟩ := lt3.get (r := 1) (by decide) (by decide)
      have ek : k = ((k.toNat : Nat) : Int) := by omega
      refine ⟨_, rfl, l, _, 0, _, rfl, rfl, .inl (.inl lt3.1), hc0, _, rfl, [c0], k.toNat, rfl, congrArg V.int ek, by omega, by simp, ?_⟩
      refine ⟨_, rfl, l, _, 1, _, rfl, rfl, .inl (.inl lt3.1), hc1, _, _, rfl, rfl, ?_, ?_⟩
      · rw [S_len, S_len, sizeLine_eq, flat_rep]
        simp
        omega
      · refine ⟨_, rfl, l, _, 0, _, rfl, rfl, .inl (.inl lt3.1), hc0, _, rfl, S w, rfl, len_line (by omega), _, _, rfl, rfl, _, rfl, _, _, rfl, rfl, [c0], w.length - 1 - k.toNat, rfl, congrArg V.int (by rw [S_len]; omega), by omega, by simp, _, _, rfl, rfl, ?_, ?_⟩
        · rw [S_cat, S_len, S_len, flat_rep, flat_rep, sizeLine_eq]
          simp
          omega
        · rw [S_cat, S_cat, flat_rep, flat_rep]
          refine q _ H3 ((s1.trans s2).trans s3) (G3.le (by omega)) ?_ ?_ ?_
          · simp
            omega
          · simp
            omega
          · intro c hc
            simp at hc
            rcases hc with z | z | z
            · rw [z.2]; exact hb0
            · rw [z]; exact hb1
            · rw [z.2]; exact hb0
end
end K04K

set_option Elab.async false
set_option linter.all false
set_option maxRecDepth 100000
set_option maxHeartbeats 4000000
namespace K04K
open K04 PySem PySem.Spec PyProof.Rows L2 CK SX KM
section
variable {P : Program} {w : World} {K : PySem.W.Frag} {mg : Str → Option Value} {base : Heap} {C : Addr}
def sp_count : Sp := fun vs H Q _ => ∃ (g : Addr) (n : Nat), vs = [.ref g, .bl true] ∧ Gn (n + 3) H g ∧ ∀ (k : Nat) H', SameX g H H' → Gn n H' g → k ≤ 2 ^ 110 → Q (.int k) H'
theorem c_law_count (T : Txt K mg C) : C8.Cal P w K mg base 3 "_law_count" sp_count [] := by
  refine calF T.d_law_count sc_law_count (fun vs H Q E h => ?_) (fun f cdv A outer s H vs Q E hr h => ?_)
  · obtain ⟨_, _, rfl, _⟩ := h; rfl
  · obtain ⟨g, n, rfl, G, q⟩ := h
    have qi : ∀ (k : Int) H', SameX g H H' → Gn n H' g → 0 ≤ k → k ≤ 2 ^ 110 → Q (.int k) H' := fun k H' s1 G1 h0 h1 => by
      obtain ⟨j, rfl⟩ : ∃ j : Nat, k = j := ⟨k.toNat, by omega⟩
      exact q j H' s1 G1 (by omega)
    refine ⟨_, (pss_cons (ps_set (i := 2) sc_law_count.nd rfl (Or.inl rfl) (C8.pe_c (c_law_random T) hr (by decide) (by rfl) (pa_cons (pv 0) (pa_cons (pe_ifExp (pt_val (pv 1)) pe_int pe_int) pa_nil))))
    (pss_cons (ps_if (pt_cmpR op_eq (pv 2) pe_int (nomark _))
    (pss_one (ps_ret (pe_op op_add (pe_op op_powB pe_int pe_int) (C8.pe_c (c_law_random T) hr (by decide) (by rfl) (pa_cons (pv 0) (pa_cons (pe_op op_powB pe_int pe_int) pa_nil))))))
    pss_nil)
    (pss_one (ps_ret (pe_ix ix_list (pe_lst (pa_cons (C8.pe_c (c_law_random T) hr (by decide) (by rfl) (pa_cons (pv 0) (pa_cons pe_int pa_nil))) (pa_cons pe_int (pa_cons (pe_op op_add pe_int (C8.pe_c (c_law_random T) hr (by decide) (by rfl) (pa_cons (pv 0) (pa_cons pe_int pa_nil)))) pa_nil)))) (pv 2) (fun _ _ => rfl)))))), ?_⟩
    refine ⟨_, rfl, _, rfl, true, rfl, iteT ?_⟩
    refine ⟨g, 4, n + 2, rfl, G, by decide, by decide, fun r H1 s1 G1 r0 r1 => ?_⟩
    refine ⟨_, rfl, rfl, _, rfl, ite2 (fun e => ?_) (fun e => ?_)⟩
    · refine ⟨_, _, rfl, rfl, ⟨by decide, by decide⟩, _, rfl, _, _, rfl, rfl, ⟨by decide, by decide⟩, g, _, n + 1, rfl, G1, by decide, by decide, fun r2 H2 s2 G2 r20 r21 => ⟨_, _, rfl, rfl, ?_⟩⟩
      have h18 : ((10 : Int) ^ Int.toNat 18) = 1000000000000000000 := by decide
      have h30 : ((10 : Int) ^ Int.toNat 30) = 1000000000000000000000000000000 := by decide
      have big : ∀ x : Int, 0 ≤ x → x < 10 ^ Int.toNat 30 → 0 ≤ 10 ^ Int.toNat 18 + x ∧ 10 ^ Int.toNat 18 + x ≤ 2 ^ 110 := fun x h0 h1 => by
        rw [h18]
        rw [h30] at h1
        omega
      exact qi _ H2 (s1.trans s2) (G2.le (by omega)) (big r2 r20 r21).1 (big r2 r20 r21).2
    · have r3 : r < 3 := by
        have : ¬ r = 3 := fun z => e (by rw [z]; exact decide_eq_true rfl)
        omega
      refine ⟨_, rfl, g, 4, n + 1, rfl, G1, by decide, by decide, fun a H2 s2 G2 a0 a1 => ?_⟩
      refine ⟨_, rfl, g, 3, n, rfl, G2, by decide, by decide, fun b H3 s3 G3 b0 b1 => ⟨_, _, rfl, rfl, by show 3 ≤ sizeLine; decide, fun L hL => ?_⟩⟩
      have fin : ∀ (k : Int), 0 ≤ k → k ≤ 4 → Q (.int k) (upd H3 L (.lst [.int a, .int 1, .int (1 + b)])) := fun k k0 k4 =>
        qi k _ ((s1.trans s2).trans (s3.trans (sameX_new hL))) (G3.upd (G3.ne hL)) k0 (by omega)
      have hc : r = 0 ∨ r = 1 ∨ r = 2 := by omega
      rcases hc with rfl | rfl | rfl
      · exact ⟨_, rfl, L, _, 0, _, rfl, rfl, .inl (.inl upd_same), atI_nat (j := 0) rfl, fin _ a0 (by omega)⟩
      · exact ⟨_, rfl, L, _, 1, _, rfl, rfl, .inl (.inl upd_same), atI_nat (j := 1) rfl, fin _ (by decide) (by decide)⟩
      · exact ⟨_, rfl, L, _, 2, _, rfl, rfl, .inl (.inl upd_same), atI_nat (j := 2) rfl, fin _ (by omega) (by omega)⟩
/-- a new list of pieces that grows while the generator runs -/
def Grow (g : Addr) (H : Hp) (L : Addr) (H' : Hp) (ps : List Pc) : Prop := SameX g H H' ∧ PL H' L ps ∧ L ≠ g ∧ H L = none
theorem Grow.go {g L : Addr} {H H' H2 : Hp} {ps : List Pc} {n : Nat} (h : Grow g H L H' ps) (G : Gn n H' g) (s : SameX g H' H2) : Grow g H L H2 ps := by
  obtain ⟨s1, ⟨vs, hl, hp⟩, lg, h0⟩ := h
  exact ⟨s1.trans s, ⟨vs, s _ _ lg hl, hp.mono fun a xs e => s.tup G e⟩, lg, h0⟩
theorem Grow.put {g L t : Addr} {H H' : Hp} {ps : List Pc} {vs : List V} {p : Pc} (h : Grow g H L H' ps) (hl : H' L = some (.lst vs)) (ht : H' t = none) :
    Grow g H L (upd (upd H' t (.tup [.str (S p.1), .int p.2])) L (.lst (vs ++ [.ref t]))) (ps ++ [p]) := by
  obtain ⟨s1, ⟨us, hl2, hp⟩, lg, h0⟩ := h
  rw [hl] at hl2
  cases hl2
  have Lt : L ≠ t := fun z => by rw [z, ht] at hl; cases hl
  have st : Same H' (upd H' t (.tup [.str (S p.1), .int p.2])) := sameNew ht
  refine ⟨(s1.trans (.of st)).upd2 h0, ⟨_, upd_same, ((hp.same st).upd (st _ _ hl)).app (.one ?_)⟩, lg, h0⟩
  rw [upd_ne (Ne.symm Lt), upd_same]
def Good (k : Nat) (ps : List Pc) : Prop := ps.length ≤ k ∧ ∀ p ∈ ps, (p.1.length ≤ 4) ∧ Low p.1 ∧ p.2 ≤ 2 ^ 110
theorem Good.put {k : Nat} {ps : List Pc} {p : Pc} (h : Good k ps) (h1 : p.1.length ≤ 4) (h2 : Low p.1) (h3 : p.2 ≤ 2 ^ 110) : Good (k + 1) (ps ++ [p]) := by
  refine ⟨by rw [List.length_append, List.length_singleton]; have := h.1; omega, fun q hq => ?_⟩
  rcases List.mem_append.mp hq with z | z
  · exact h.2 q z
  · rw [List.mem_singleton.mp z]
    exact ⟨h1, h2, h3⟩
theorem Good.ok {k : Nat} {ps : List Pc} (h : Good k ps) : OK k ps := by
  have lt : ∀ l : List Pc, (∀ p ∈ l, (p.1.length ≤ 4) ∧ Low p.1 ∧ p.2 ≤ 2 ^ 110) → (l.map (·.1.length)).sum ≤ l.length * 10 := by
    intro l
    induction l with
    | nil => intro _; exact Nat.zero_le _
    | cons p r ih =>
      intro h
      have a := ih fun q hq => h q (List.mem_cons_of_mem _ hq)
      have b := (h p List.mem_cons_self).1
      rw [List.map_cons, List.sum_cons, List.length_cons, Nat.add_mul]
      omega
  refine ⟨h.1, fun p hp => ⟨by have := (h.2 p hp).1; omega, (h.2 p hp).2.1⟩, ?_, Nat.le_trans (lt ps h.2) (Nat.mul_le_mul_right _ h.1)⟩
  have e : ∀ l : List Pc, (∀ p ∈ l, (p.1.length ≤ 4) ∧ Low p.1 ∧ p.2 ≤ 2 ^ 110) → (l.map (·.2)).sum ≤ l.length * 2 ^ 200 := by
    intro l
    induction l with
    | nil => intro _; exact Nat.zero_le _
    | cons p r ih =>
      intro h
      have a := ih fun q hq => h q (List.mem_cons_of_mem _ hq)
      have b := (h p List.mem_cons_self).2.2
      rw [List.map_cons, List.sum_cons, List.length_cons, Nat.add_mul]
      omega
  exact Nat.le_trans (e ps h.2) (Nat.mul_le_mul_right _ h.1)
def sp_lpieces : Sp := fun vs H Q _ => ∃ (g l : Addr) (cs : List Nat) (n m : Nat), vs = [.ref g, .ref l, .int m, .bl true] ∧ LT H l cs ∧ l ≠ g ∧ Gn (n + 1000) H g ∧ 1 ≤ m ∧ m ≤ 8 ∧
  ∀ L ps H', Grow g H L H' ps → Gn n H' g → Good m ps → Q (.ref L) H'
theorem c_law_pieces (T : Txt K mg C) : C8.Cal P w K mg base 5 "_law_pieces" sp_lpieces [] := by
  refine calF T.d_law_pieces sc_law_pieces (fun vs H Q E h => ?_) (fun f cdv A outer s H vs Q E hr h => ?_)
  · obtain ⟨_, _, _, _, _, rfl, _⟩ := h; rfl
  · obtain ⟨g, l, cs, n, m, rfl, lt, lg, G, hm1, hm8, q⟩ := h
    refine ⟨_, (pss_cons (ps_par (i := 4) (j := 5) (by rfl) sc_law_pieces.nd rfl rfl (by decide) rfl rfl (pa_cons (pe_lst pa_nil) (pa_cons (C8.pe_c (c_law_base T) hr (by decide) (by rfl) (pa_cons (pv 0) (pa_cons (pv 1) pa_nil))) pa_nil)) (by rfl))
    (pss_cons (ps_for PassesOwn.never rfl (pi_range1 (by rfl) T.m_range (pa_cons (pe_op op_add pe_int (C8.pe_c (c_law_random T) hr (by decide) (by rfl) (pa_cons (pv 0) (pa_cons (pv 2) pa_nil)))) pa_nil)) (pg_name (i := 6) sc_law_pieces.nd rfl (Or.inl rfl))
    (pss_cons (ps_par (i := 7) (j := 8) (by rfl) sc_law_pieces.nd rfl rfl (by decide) rfl rfl (pa_cons (C8.pe_c (c_law_random T) hr (by decide) (by rfl) (pa_cons (pv 0) (pa_cons pe_int pa_nil))) (pa_cons (C8.pe_c (c_law_random T) hr (by decide) (by rfl) (pa_cons (pv 0) (pa_cons (pe_callB call_len_str (by rfl) T.m_len (by decide +kernel) (pa_cons (pv 5) pa_nil)) pa_nil))) pa_nil)) (by rfl))
    (pss_one (ps_if (pt_cmpR op_eq (pv 7) pe_int (nomark _))
    (pss_one (ps_expr (pe_bm PySem.F.plainAttrs_list PySem.F.slot_list_append PySem.F.type_list_append mt_append (pv 4) (pa_cons (pe_tup (pa_cons (C8.pe_c (c_law_word T) hr (by decide) (by rfl) (pa_cons (pv 0) (pa_cons (pv 1) (pa_cons pe_int (pa_cons pe_int pa_nil))))) (pa_cons (C8.pe_c (c_law_count T) hr (by decide) (by rfl) (pa_cons (pv 0) (pa_cons (pv 3) pa_nil))) pa_nil))) pa_nil))))
    (pss_one (ps_if (pt_cmpR op_eq (pv 7) pe_int (nomark _))
    (pss_one (ps_expr (pe_bm PySem.F.plainAttrs_list PySem.F.slot_list_append PySem.F.type_list_append mt_append (pv 4) (pa_cons (pe_tup (pa_cons (pe_slice C8.sl_txt (pv 5) po_none (po_some (pv 8))) (pa_cons pe_int pa_nil))) pa_nil))))
    (pss_one (ps_if (pt_cmpR op_eq (pv 7) pe_int (nomark _))
    (pss_one (ps_expr (pe_bm PySem.F.plainAttrs_list PySem.F.slot_list_append PySem.F.type_list_append mt_append (pv 4) (pa_cons (pe_tup (pa_cons (pe_op op_add_str (pe_slice C8.sl_txt (pv 5) (po_some (pv 8)) po_none) (pe_slice C8.sl_txt (pv 5) po_none (po_some (pv 8)))) (pa_cons (C8.pe_c (c_law_count T) hr (by decide) (by rfl) (pa_cons (pv 0) (pa_cons (pv 3) pa_nil))) pa_nil))) pa_nil))))
    (pss_cons (ps_if (pt_cmpR op_eq (pv 7) pe_int (nomark _))
    (pss_one (ps_set (i := 5) sc_law_pieces.nd rfl (Or.inl rfl) (C8.pe_c (c_law_base T) hr (by decide) (by rfl) (pa_cons (pv 0) (pa_cons (pv 1) pa_nil)))))
    pss_nil)
    (pss_one (ps_expr (pe_bm PySem.F.plainAttrs_list PySem.F.slot_list_append PySem.F.type_list_append mt_append (pv 4) (pa_cons (pe_tup (pa_cons (pv 5) (pa_cons (C8.pe_c (c_law_count T) hr (by decide) (by rfl) (pa_cons (pv 0) (pa_cons (pv 3) pa_nil))) pa_nil))) pa_nil)))))))))))))
    (pss_one (ps_ret (pv 4))))), ?_⟩
    refine ⟨by show 0 ≤ sizeLine; omega, fun L hL => ?_⟩
    have Lg := G.ne hL
    have lL : l ≠ L := fun z => by
      have e := lt.1
      rw [z, hL] at e
      cases e
    have lt0 : LT (upd H L (.lst [])) l cs := ⟨by rw [upd_ne lL]; exact lt.1, lt.2⟩
    refine ⟨_, rfl, _, rfl, g, l, cs, n + 900, rfl, lt0, lg, (G.upd Lg).le (by omega), fun w H1 s1 G1 w1 w4 lw => ⟨_, _, rfl, ?_⟩⟩
    have gr1 : Grow g H L H1 [] := ⟨(sameX_new hL).trans s1, ⟨[], s1 _ _ Lg upd_same, .nil⟩, Lg, hL⟩
    refine ⟨_, rfl, _, rfl, g, m, n + 899, rfl, G1, by omega, by omega, fun r H2 s2 G2 r0 r1 => ⟨_, _, rfl, rfl, _, rfl, by omega, by omega, ?_⟩⟩
    have gr2 := gr1.go G1 s2
    have lt2 := (lt0.sameX s1 lg).sameX s2 lg
    refine for_it walk_range (fun i σ H3 => ∃ (w : List Nat) (y6 y7 y8 : Option V) (ps : List Pc), σ = [some (.ref g), some (.ref l), some (.int m), some (.bl true), some (.ref L), some (.str (S w)), y6, y7, y8] ∧
      Grow g H L H3 ps ∧ LT H3 l cs ∧ Gn (n + 100 * (8 - i)) H3 g ∧ Good i ps ∧ 1 ≤ w.length ∧ w.length ≤ 4 ∧ Low w)
      ⟨w, none, none, none, [], rfl, gr2, lt2, G2.le (by omega), ⟨Nat.zero_le _, fun p h => absurd h List.not_mem_nil⟩, w1, w4, lw⟩ (fun _ _ _ _ _ => True.intro) (fun i v σ H3 H4 hi p yy => ?_) fun σ H3 p => ?_
    · obtain ⟨w, y6, y7, y8, ps, rfl, gr, lt3, G3, gd, w1, w4, lw⟩ := p
      obtain ⟨rfl, rfl⟩ := yy
      have i8 : i < 8 := by omega
      have eG : n + 100 * (8 - i) = n + 100 * (8 - (i + 1)) + 100 := by omega
      rw [eG] at G3
      generalize n + 100 * (8 - (i + 1)) = n' at G3
      refine ⟨_, rfl, g, 5, n' + 99, rfl, G3, by decide, by decide, fun kind H5 s5 G5 k0 k1 => ?_⟩
      have gr5 := gr.go G3 s5
      have lt5 := lt3.sameX s5 lg
      refine ⟨_, rfl, _, rfl, S w, rfl, len_line (by omega), g, _, n' + 98, rfl, G5, by rw [S_len]; omega, by rw [S_len]; omega, fun bY H6 s6 G6 b0 b1 => ⟨_, _, rfl, ?_⟩⟩
      rw [S_len] at b1
      have gr6 := gr5.go G5 s6
      have lt6 := lt5.sameX s6 lg
      have gl := gd.1
      have tail : ∀ {H8 : Hp} {vs8 : List V} {t : Addr} (p : Pc), Grow g H L H8 ps → LT H8 l cs → Gn n' H8 g → H8 L = some (.lst vs8) → H8 t = none → p.1.length ≤ 4 → Low p.1 → p.2 ≤ 2 ^ 110 →
          Grow g H L (upd (upd H8 t (.tup [.str (S p.1), .int p.2])) L (.lst (vs8 ++ [.ref t]))) (ps ++ [p]) ∧ LT (upd (upd H8 t (.tup [.str (S p.1), .int p.2])) L (.lst (vs8 ++ [.ref t]))) l cs ∧
            Gn n' (upd (upd H8 t (.tup [.str (S p.1), .int p.2])) L (.lst (vs8 ++ [.ref t]))) g ∧ Good (i + 1) (ps ++ [p]) := by
        intro H8 vs8 t p g8 l8 G8 e8 ht a b c
        have st : Same H8 (upd H8 t (.tup [.str (S p.1), .int p.2])) := sameNew ht
        exact ⟨g8.put e8 ht, ⟨by rw [upd_ne lL]; exact st _ _ l8.1, l8.2⟩, (G8.same st).upd Lg, gd.put a b c⟩
      have lenL : ∀ {H8 : Hp} {vs8 : List V}, Grow g H L H8 ps → H8 L = some (.lst vs8) → vs8.length < sizeLine := by
        intro H8 vs8 g8 e8
        obtain ⟨us, hu, pu⟩ := g8.2.1
        rw [hu] at e8
        cases e8
        have := pu.len
        rw [sizeLine_eq]
        omega
      have low_take : ∀ k, Low (w.take k) := fun k c hc => lw c (List.mem_of_mem_take hc)
      have low_drop : ∀ k, Low (w.drop k) := fun k c hc => lw c (List.mem_of_mem_drop hc)
      obtain ⟨bn, rfl⟩ : ∃ bn : Nat, bY = bn := ⟨bY.toNat, by omega⟩
      obtain ⟨vs6, e6, _⟩ := id gr6.2.1
      refine ⟨_, rfl, rfl, _, rfl, ite2 (fun c0 => ?_) (fun c0 => ?_)⟩
      · refine ⟨_, rfl, .inl ⟨rfl, _, .inl (.inl e6)⟩, _, rfl, _, rfl, g, l, cs, n' + 80, 0, 3, rfl, lt6, lg, G6.le (by omega), by decide, by decide, fun w2 H7 s7 G7 wa wb lw2 => ?_⟩
        refine ⟨_, rfl, _, rfl, g, n' + 70, rfl, G7.le (by omega), fun k H8 s8 G8 hk => ?_⟩
        have g8 := (gr6.go G6 s7).go G7 s8
        have l8 := (lt6.sameX s7 lg).sameX s8 lg
        obtain ⟨vs8, e8, _⟩ := id g8.2.1
        refine ⟨by show 2 ≤ sizeLine; decide, fun t ht => ⟨L, _, _, rfl, rfl, sameNew ht _ _ e8, lenL g8 e8, ?_⟩⟩
        obtain ⟨A1, A2, A3, A4⟩ := tail (w2, k) g8 l8 (G8.le (by omega)) e8 ht (by show w2.length ≤ 4; omega) lw2 hk
        exact ⟨w, _, _, _, _, rfl, A1, A2, A3, A4, w1, w4, lw⟩
      · refine ⟨_, rfl, rfl, _, rfl, ite2 (fun c1 => ?_) (fun c1 => ?_)⟩
        · refine ⟨_, rfl, .inl ⟨rfl, _, .inl (.inl e6)⟩, _, rfl, _, rfl, _, rfl, S w, rfl, len_line (by omega), by show 2 ≤ sizeLine; decide, fun t ht => ⟨L, _, _, rfl, rfl, sameNew ht _ _ e6, lenL gr6 e6, ?_⟩⟩
          rw [SX.slice_to (by omega), Int.toNat_natCast] at *
          obtain ⟨A1, A2, A3, A4⟩ := tail (w.take bn, 1) gr6 lt6 (G6.le (by omega)) e6 ht (by show (w.take bn).length ≤ 4; rw [List.length_take]; omega) (low_take bn) (by show 1 ≤ 2 ^ 110; decide)
          exact ⟨w, _, _, _, _, rfl, A1, A2, A3, A4, w1, w4, lw⟩
        · refine ⟨_, rfl, rfl, _, rfl, ite2 (fun c2 => ?_) (fun c2 => ?_)⟩
          · refine ⟨_, rfl, .inl ⟨rfl, _, .inl (.inl e6)⟩, _, rfl, _, rfl, _, rfl, S w, rfl, len_line (by omega), _, rfl, _, rfl, _, rfl, S w, rfl, len_line (by omega), ?_⟩
            rw [SX.slice_from (by omega), SX.slice_to (by omega), Int.toNat_natCast]
            refine ⟨_, _, rfl, rfl, ?_, ?_⟩
            · rw [S_len, S_len, List.length_drop, List.length_take, sizeLine_eq]
              omega
            · rw [S_cat]
              refine ⟨_, rfl, _, rfl, g, n' + 70, rfl, G6.le (by omega), fun k H8 s8 G8 hk => ?_⟩
              have g8 := gr6.go G6 s8
              have l8 := lt6.sameX s8 lg
              obtain ⟨vs8, e8, _⟩ := id g8.2.1
              refine ⟨by show 2 ≤ sizeLine; decide, fun t ht => ⟨L, _, _, rfl, rfl, sameNew ht _ _ e8, lenL g8 e8, ?_⟩⟩
              obtain ⟨A1, A2, A3, A4⟩ := tail (w.drop bn ++ w.take bn, k) g8 l8 (G8.le (by omega)) e8 ht (by show (w.drop bn ++ w.take bn).length ≤ 4; rw [List.length_append, List.length_drop, List.length_take]; omega) (low_rot lw) hk
              exact ⟨w, _, _, _, _, rfl, A1, A2, A3, A4, w1, w4, lw⟩
          · refine ⟨_, rfl, rfl, _, rfl, ite2 (fun c3 => ?_) (fun c3 => ?_)⟩
            · refine ⟨_, rfl, _, rfl, g, l, cs, n' + 70, rfl, lt6, lg, G6.le (by omega), fun w2 H7 s7 G7 wa wb lw2 => ?_⟩
              have g7 := gr6.go G6 s7
              have l7 := lt6.sameX s7 lg
              obtain ⟨vs7, e7, _⟩ := id g7.2.1
              refine ⟨_, rfl, .inl ⟨rfl, _, .inl (.inl e7)⟩, _, rfl, _, rfl, _, rfl, g, n' + 60, rfl, G7.le (by omega), fun k H8 s8 G8 hk => ?_⟩
              have g8 := g7.go G7 s8
              have l8 := l7.sameX s8 lg
              obtain ⟨vs8, e8, _⟩ := id g8.2.1
              refine ⟨by show 2 ≤ sizeLine; decide, fun t ht => ⟨L, _, _, rfl, rfl, sameNew ht _ _ e8, lenL g8 e8, ?_⟩⟩
              obtain ⟨A1, A2, A3, A4⟩ := tail (w2, k) g8 l8 (G8.le (by omega)) e8 ht wb lw2 hk
              exact ⟨w2, _, _, _, _, rfl, A1, A2, A3, A4, wa, wb, lw2⟩
            · refine ⟨_, rfl, .inl ⟨rfl, _, .inl (.inl e6)⟩, _, rfl, _, rfl, _, rfl, g, n' + 60, rfl, G6.le (by omega), fun k H8 s8 G8 hk => ?_⟩
              have g8 := gr6.go G6 s8
              have l8 := lt6.sameX s8 lg
              obtain ⟨vs8, e8, _⟩ := id g8.2.1
              refine ⟨by show 2 ≤ sizeLine; decide, fun t ht => ⟨L, _, _, rfl, rfl, sameNew ht _ _ e8, lenL g8 e8, ?_⟩⟩
              obtain ⟨A1, A2, A3, A4⟩ := tail (w, k) g8 l8 (G8.le (by omega)) e8 ht w4 lw hk
              exact ⟨w, _, _, _, _, rfl, A1, A2, A3, A4, w1, w4, lw⟩
    · obtain ⟨w, y6, y7, y8, ps, rfl, gr, lt3, G3, gd, _⟩ := p
      exact ⟨_, rfl, q L ps H3 gr (G3.le (by omega)) ⟨by have := gd.1; omega, gd.2⟩⟩
end
end K04K

set_option Elab.async false
set_option linter.all false
set_option maxRecDepth 100000
set_option maxHeartbeats 4000000
namespace K04K
open K04 PySem PySem.Spec PyProof.Rows L2 CK SX KM
section
variable {P : Program} {w : World} {K : PySem.W.Frag} {mg : Str → Option Value} {base : Heap} {C : Addr}
def sp_long : Sp := fun vs H Q _ => ∃ (l : Addr) (ps : List Pc) (n : Nat), vs = [.ref l] ∧ PL H l ps ∧ OK n ps ∧ n ≤ 1000 ∧ ∀ H', Same H H' → Q (.int (long ps : Nat)) H'
theorem sum_long : ∀ ps : List Pc, (ps.map fun p => ((p.1.length * p.2 : Nat) : Int)).sum = ((long ps : Nat) : Int)
  | [] => rfl
  | p :: r => by
    rw [List.map_cons, List.sum_cons, sum_long r, show long (p :: r) = p.1.length * p.2 + long r by simp [long, plen], Int.natCast_add]
theorem c_law_long (T : Txt K mg C) : C8.Cal P w K mg base 1 "_law_long" sp_long [] := by
  refine calF T.d_law_long sc_law_long (fun vs H Q E h => ?_) (fun f cdv A outer s H vs Q E hr h => ?_)
  · obtain ⟨_, _, _, rfl, _⟩ := h; rfl
  · obtain ⟨l, ps, n, rfl, ⟨vs, hl, hp⟩, ok, hn, q⟩ := h
    have len := hp.len
    have okl := ok.len
    refine ⟨_, (pss_one (ps_ret (pe_callB (cr_sum rfl) (by rfl) T.m_sum (by decide +kernel) (pa_cons (pe_lc (own := [("_law_word_here", 1), ("_law_times", 2)]) (by rfl) sc_law_long.nd (pi_list (pv 0)) (blkOk_by (N := ["_law_pieces_here", "_law_word_here", "_law_times"]) (sc := C8.fnScope (topS 51)) (own := [("_law_word_here", 1), ("_law_times", 2)]) (by decide +kernel)) (fun _ _ _ _ _ => (pg_two (K := K) (i := 1) (j := 2) rfl rfl sc_law_long.nd rfl rfl (Or.inl rfl) (Or.inl rfl))) (fun _ _ _ _ _ => pts_nil) (fun _ _ _ _ _ => (pe_op op_mulZ (pe_callB call_len_str (by rfl) T.m_len (by decide +kernel) (pa_cons (pv 1) pa_nil)) (pv 2)))) pa_nil)))), ?_⟩
    refine ⟨_, rfl, l, rfl, ⟨_, .inl (.inl hl)⟩, fun D hD => ?_⟩
    refine lc_list (K := K) (a := l) (xs := vs) (fun i H1 => Same H H1 ∧ H1 D = some (.lst ((ps.take i).map fun p => V.int ((p.1.length * p.2 : Nat) : Int)))) ⟨sameNew hD, by rw [upd_same]; rfl⟩ (fun i H1 _ p => .inl (.inl (p.1 _ _ hl))) (fun i y H1 hi p => ?_) fun H1 p => ?_
    · obtain ⟨s1, hD1⟩ := p
      obtain ⟨a, p, rfl, hpi, ha⟩ := hp.get hi
      have hw := ok.word p (List.mem_of_getElem? hpi)
      have ht := ok.times hn (List.mem_of_getElem? hpi)
      have hii := (List.getElem?_eq_some_iff.mp hpi).1
      refine ⟨a, _, rfl, .inl (.inl (s1 _ _ ha)), rfl, _, _, rfl, _, _, rfl, rfl, rfl, ?_⟩
      refine ⟨_, rfl, S p.1, rfl, len_line (by omega), _, rfl, p.1.length, p.2, congrArg (fun n : Nat => V.int n) (S_len _), rfl, by omega, by omega, _, hD1, ?_, same_upd2 hD s1, ?_⟩
      · rw [List.length_map, List.length_take, sizeLine_eq]
        omega
      · rw [upd_same, List.take_succ, hpi]
        simp
    · obtain ⟨s1, hD1⟩ := p
      rw [len, List.take_length] at hD1
      refine ⟨D, ps.map fun p => ((p.1.length * p.2 : Nat) : Int), rfl, .inl (.inl (by rw [hD1, List.map_map]; rfl)), ?_⟩
      rw [sum_long]
      exact q _ s1
def sp_lletter : Sp := fun vs H Q _ => ∃ (l : Addr) (ps : List Pc) (n i c : Nat), vs = [.ref l, .int i] ∧ PL H l ps ∧ OK n ps ∧ n ≤ 1000 ∧ (wr ps)[i]? = some c ∧ Q (.str (S [c])) H
theorem c_law_letter (T : Txt K mg C) : C8.Cal P w K mg base 1 "_law_letter" sp_lletter [] := by
  refine calF T.d_law_letter sc_law_letter (fun vs H Q E h => ?_) (fun f cdv A outer s H vs Q E hr h => ?_)
  · obtain ⟨_, _, _, _, _, rfl, _⟩ := h; rfl
  · obtain ⟨l, ps, n, i0, c, rfl, ⟨vs, hl, hp⟩, ok, hn, hc, q⟩ := h
    have len := hp.len
    refine ⟨_, (pss_cons (ps_for PassesOwn.never rfl (pi_list (pv 0)) (pg_two (K := K) (i := 2) (j := 3) rfl rfl sc_law_letter.nd rfl rfl (Or.inl rfl) (Or.inl rfl))
    (pss_cons (ps_if (pt_cmpR op_lt (pv 1) (pe_op op_mulZ (pe_callB call_len_str (by rfl) T.m_len (by decide +kernel) (pa_cons (pv 2) pa_nil)) (pv 3)) (nomark _))
    (pss_one (ps_ret (pe_ix ix_str (pv 2) (pe_op op_modZ (pe_callTy call_int1 (by rfl) T.m_int (by decide +kernel) (pa_cons (pv 1) pa_nil)) (pe_callB call_len_str (by rfl) T.m_len (by decide +kernel) (pa_cons (pv 2) pa_nil))) (fun _ _ => rfl))))
    pss_nil)
    (pss_one (ps_set (i := 1) sc_law_letter.nd rfl (Or.inl rfl) (pe_op op_sub (pv 1) (pe_op op_mulZ (pe_callB call_len_str (by rfl) T.m_len (by decide +kernel) (pa_cons (pv 2) pa_nil)) (pv 3)))))))
    (pss_one (ps_ret pe_non))), ?_⟩
    refine ⟨_, rfl, l, rfl, ⟨_, .inl (.inl hl)⟩, for_list (K := K) (a := l) (xs := vs) (fun i σ H' => H' = H ∧ ∃ (z : Int) (j : Nat) (y2 y3 : Option V), σ = [some (.ref l), some (.int z), y2, y3] ∧ z = j ∧ (wr (ps.drop i))[j]? = some c)
      ⟨rfl, _, i0, none, none, rfl, rfl, hc⟩ (fun i σ H' _ p => by rw [p.1]; exact .inl (.inl hl)) (fun i y σ H' hi p => ?_) (fun σ H' p => ?_)⟩
    · obtain ⟨rfl, z, j, y2, y3, rfl, rfl, hj⟩ := p
      obtain ⟨a, p, rfl, hpi, ha⟩ := hp.get hi
      have hw := ok.word p (List.mem_of_getElem? hpi)
      have ht := ok.times hn (List.mem_of_getElem? hpi)
      have hii := (List.getElem?_eq_some_iff.mp hpi).1
      have ed : ps.drop i = p :: ps.drop (i + 1) := by
        rw [← List.getElem_cons_drop hii, (List.getElem?_eq_some_iff.mp hpi).2]
      rw [ed, ← let1_eq, let1] at hj
      have pe : plen p = p.1.length * p.2 := rfl
      refine ⟨a, _, rfl, .inl (.inl ha), rfl, _, _, rfl, _, _, rfl, rfl, ?_⟩
      refine ⟨_, rfl, _, rfl, S p.1, rfl, len_line (by omega), _, rfl, p.1.length, p.2, congrArg (fun n : Nat => V.int n) (S_len _), rfl, by omega, by omega, _, _, rfl, rfl, _, rfl, ite2 (fun e => ?_) (fun e => ?_)⟩
      · have e' : j < plen p := by
          have := of_decide_eq_true e
          omega
        rw [if_pos e'] at hj
        have ne : p.1 ≠ [] := fun z => by rw [z] at hj; simp at hj
        have n0 := List.length_pos_iff.mpr ne
        refine ⟨_, rfl, _, rfl, .inl ⟨_, rfl, _, rfl, S p.1, rfl, len_line (by omega), j, p.1.length, rfl, congrArg (fun n : Nat => V.int n) (S_len _), by omega, ?_⟩⟩
        exact ⟨_, _, c, rfl, rfl, len_line (by omega), atI_nat (xs := p.1) hj, q⟩
      · have e' : ¬ j < plen p := fun z => e (decide_eq_true (by omega))
        rw [if_neg e', let1_eq] at hj
        refine ⟨_, rfl, _, rfl, S p.1, rfl, len_line (by omega), _, rfl, p.1.length, p.2, congrArg (fun n : Nat => V.int n) (S_len _), rfl, by omega, by omega, _, _, rfl, rfl, ?_⟩
        exact ⟨rfl, _, j - plen p, _, _, rfl, by omega, hj⟩
    · obtain ⟨rfl, z, j, y2, y3, rfl, rfl, hj⟩ := p
      rw [len, List.drop_length] at hj
      simp [wr] at hj
end
end K04K

set_option Elab.async false
set_option linter.all false
set_option maxRecDepth 100000
set_option maxHeartbeats 4000000
namespace K04K
open K04 PySem PySem.Spec PyProof.Rows L2 CK SX KM
/-! ### pieces as data -/
def dPc (p : Pc) : PyData := .tuple [.str (S p.1), .int p.2]
theorem str_low {w : List Nat} (h : Low w) : PyData.strOk (S w) = true := by
  unfold PyData.strOk
  rw [← Array.all_toList, List.all_eq_true]
  exact fun c hc => decide_eq_true (by have := h c hc; omega)
theorem lay_pc {p : Pc} (h : Low p.1) : (dPc p).canLay0 = true := by simp [dPc, PyData.canLay0, PyData.canLayAll0, str_low h]
theorem deep_pc (p : Pc) : (dPc p).depth = 1 := by simp [dPc, PyData.depth, PyData.depthAll]
theorem lay_pcs : ∀ ps : List Pc, (∀ p ∈ ps, Low p.1) → PyData.canLayAll0 (ps.map dPc) = true
  | [], _ => by simp [PyData.canLayAll0]
  | p :: r, h => by
    rw [List.map_cons, PyData.canLayAll0, lay_pcs r fun q hq => h q (List.mem_cons_of_mem _ hq), lay_pc (h p List.mem_cons_self)]
    rfl
theorem deep_pcs : ∀ ps : List Pc, PyData.depthAll (ps.map dPc) ≤ 1
  | [] => by simp [PyData.depthAll]
  | p :: r => by
    have := deep_pcs r
    rw [List.map_cons, PyData.depthAll, deep_pc]
    omega
theorem shaped_pcs {ps : List Pc} (h : ∀ p ∈ ps, Low p.1) : SeqAt.shaped (.list (ps.map dPc)) = true := by
  unfold SeqAt.shaped
  rw [PyData.canLay0, lay_pcs ps h, PyData.depth]
  have := deep_pcs ps
  rw [decide_eq_true (by omega)]
  rfl
section
variable {K : PySem.W.Frag} {H : Hp}
theorem dpAll_pcs {vs : List V} {ps : List Pc} (h : Pcs H vs ps) : DpAll K H vs (ps.map dPc) := by
  induction h with
  | nil => exact .nil
  | cons e _ ih => exact .cons (.tup (.inl (.inl e)) (.cons (.str _) (.cons (.int _) .nil))) ih
theorem dp_pcs {l : Addr} {ps : List Pc} (h : PL H l ps) : Dp K H (.ref l) (.list (ps.map dPc)) := by
  obtain ⟨vs, e, p⟩ := h
  exact .lst (.inl (.inl e)) (dpAll_pcs p)
end
theorem eqv_nil (p : Pc) (r : List Pc) : PyData.eqv (.list ((p :: r).map dPc)) (.list []) = false := by
  simp [PyData.eqv, PyData.eqvAll]
section
variable {X : Cx}
theorem op_nePc (hu : X.A.units + 64 < cLine) : OpR X (compareOp .NotEq) (fun x y H Q => ∃ (l m : Addr) (ps : List Pc), x = .ref l ∧ y = .ref m ∧ PL H l ps ∧ (∀ p ∈ ps, Low p.1) ∧ H m = some (.lst []) ∧ Q (.bl (!ps.isEmpty)) H) := by
  intro pins s σ H x y v u Q I rx ry h
  obtain ⟨l, m, ps, rfl, rfl, hl, lw, hm, q⟩ := h
  refine op_neD hu pins s σ H _ _ v u Q I rx ry ⟨.list (ps.map dPc), .list [], dp_pcs hl, .lst (.inl (.inl hm)) .nil, shaped_pcs lw, shaped_pcs (ps := []) (fun p h => absurd h List.not_mem_nil), ?_⟩
  cases ps with
  | nil =>
    rw [List.map_nil, SeqAt.eqv_refl (.list []) (SeqAt.canLay_of_shaped (shaped_pcs (ps := []) (fun p h => absurd h List.not_mem_nil)))]
    exact q
  | cons p r =>
    rw [eqv_nil]
    exact q
end
/-- what the law's filter lets through -/
def keep (p : Pc) : Bool := decide (p.1 ≠ []) && decide (0 < p.2)
theorem fold_keep : ∀ (ps acc : List Pc), (ps.filter keep).foldl stepT acc = ps.foldl stepT acc
  | [], _ => rfl
  | p :: r, acc => by
    by_cases h : keep p = true
    · rw [List.filter_cons_of_pos h, List.foldl_cons, List.foldl_cons, fold_keep r]
    · rw [List.filter_cons_of_neg h, List.foldl_cons, fold_keep r]
      have : stepT acc p = acc := by
        unfold stepT
        rw [if_pos]
        unfold keep at h
        simp at h
        by_cases z : p.1 = []
        · exact .inl z
        · exact .inr (h z)
      rw [this]
end K04K

set_option Elab.async false
set_option linter.all false
set_option maxRecDepth 100000
set_option maxHeartbeats 4000000
namespace K04K
open K04 PySem PySem.Spec PyProof.Rows L2 CK SX KM
theorem set_last {vs : List V} {v u : V} (h : vs[vs.length - 1]? = some u) : ixN vs.length (-1) = some (vs.length - 1) ∧ vs.set (vs.length - 1) v = vs.dropLast ++ [v] := by
  have hl := (List.getElem?_eq_some_iff.mp h).1
  constructor
  · unfold ixN
    rw [if_neg (by omega), if_pos (by omega)]
    congr 1
    omega
  · have e : vs = vs.dropLast ++ [u] := by
      apply last_split
      rw [List.getLast?_eq_getElem?]
      exact h
    conv => lhs; rw [e]
    rw [List.set_append_right _ _ (by simp)]
    simp
section
variable {P : Program} {w : World} {K : PySem.W.Frag} {mg : Str → Option Value} {base : Heap} {C : Addr}
def sp_tidied : Sp := fun vs H Q _ => ∃ (l : Addr) (ps : List Pc) (n : Nat), vs = [.ref l] ∧ PL H l ps ∧ OK n ps ∧ n ≤ 1000 ∧ ∀ r H', Same H H' → H r = none → PL H' r (tidy ps) → Q (.ref r) H'
theorem c_law_tidied (T : Txt K mg C) : C8.Cal P w K mg base 1 "_law_tidied" sp_tidied [] := by
  refine calF T.d_law_tidied sc_law_tidied (fun vs H Q E h => ?_) (fun f cdv A outer s H vs Q E hr h => ?_)
  · obtain ⟨_, _, _, rfl, _⟩ := h; rfl
  · obtain ⟨l, ps, n, rfl, ⟨vs, hl, hp⟩, ok, hn, q⟩ := h
    have len := hp.len
    have okl := ok.len
    refine ⟨_, (pss_cons (ps_set (i := 1) sc_law_tidied.nd rfl (Or.inl rfl) (pe_lst pa_nil))
    (pss_cons (ps_for PassesOwn.never rfl (pi_list (pe_lc (own := [("_law_piece", 4)]) (by rfl) sc_law_tidied.nd (pi_list (pv 0)) (blkOk_by (N := ["_law_pieces_here", "_law_found", "_law_word_here", "_law_times", "_law_piece"]) (sc := C8.fnScope (topS 50)) (own := [("_law_piece", 4)]) (by decide +kernel)) (fun _ _ _ _ _ => (pg_name (i := 4) sc_law_tidied.nd rfl (Or.inl rfl))) (fun _ _ _ _ _ => (pts_one (PW.pt (pw_and (pt_cmpR op_ne (pe_ix ix_tupH (pv 4) pe_int (fun _ _ => rfl)) pe_str (nomark _)) (pw_and1 (pt_cmpR op_gt (pe_ix ix_tupH (pv 4) pe_int (fun _ _ => rfl)) pe_int (nomark _))))))) (fun _ _ _ _ _ => (pv 4)))) (pg_two (K := K) (i := 2) (j := 3) rfl rfl sc_law_tidied.nd rfl rfl (Or.inl rfl) (Or.inl rfl))
    (pss_one (ps_if (PW.pt (pw_and (pt_cmpR (op_nePc hr.units) (pv 1) (pe_lst pa_nil) (nomark _)) (pw_and1 (pt_cmpR op_eq (pe_ix ix_tup (pe_ix ix_list (pv 1) (pe_un un_neg pe_int) (fun _ _ => rfl)) pe_int (fun _ _ => rfl)) (pv 2) (nomark _)))))
    (pss_one (ps_asg (pe_tup (pa_cons (pv 2) (pa_cons (pe_op op_add (pe_ix ix_tup (pe_ix ix_list (pv 1) (pe_un un_neg pe_int) (fun _ _ => rfl)) pe_int (fun _ _ => rfl)) (pv 3)) pa_nil))) (pg_sub (pv 1) (pe_un un_neg pe_int) set_list)))
    (pss_one (ps_expr (pe_bm PySem.F.plainAttrs_list PySem.F.slot_list_append PySem.F.type_list_append mt_append (pv 1) (pa_cons (pe_tup (pa_cons (pv 2) (pa_cons (pv 3) pa_nil))) pa_nil)))))))
    (pss_one (ps_ret (pv 1))))), ?_⟩
    refine ⟨by show 0 ≤ sizeLine; omega, fun r hr0 => ?_⟩
    have s0 := sameNew (o := .lst []) hr0
    refine ⟨_, rfl, l, rfl, ⟨_, .inl (.inl (s0 _ _ hl))⟩, fun D hD => ?_⟩
    have Dr : D ≠ r := fun z => by rw [z, upd_same] at hD; cases hD
    have hD0 : H D = none := s0.free hD
    refine lc_list (K := K) (a := l) (xs := vs) (fun i H1 => Same (upd H r (.lst [])) H1 ∧ PL H1 D ((ps.take i).filter keep) ∧ i ≤ ps.length) ⟨sameNew hD, ⟨[], upd_same, .nil⟩, Nat.zero_le _⟩ (fun i H1 _ p => .inl (.inl (p.1 _ _ (s0 _ _ hl)))) (fun i y H1 hi p => ?_) fun H1 p => ?_
    · obtain ⟨s1, ⟨acc, hacc, pacc⟩, _⟩ := p
      obtain ⟨a, p, rfl, hpi, ha⟩ := hp.get hi
      have hii := (List.getElem?_eq_some_iff.mp hpi).1
      have ha1 := s1 _ _ (s0 _ _ ha)
      have tk : (ps.take (i + 1)).filter keep = (ps.take i).filter keep ++ (if keep p = true then [p] else []) := by
        rw [List.take_succ, hpi, List.filter_append]
        congr 1
        simp [List.filter_cons]
      have no : keep p = false → Same (upd H r (.lst [])) H1 ∧ PL H1 D ((ps.take (i + 1)).filter keep) ∧ i + 1 ≤ ps.length := fun k => by
        rw [tk, k]
        simp only [Bool.false_eq_true, if_false, List.append_nil]
        exact ⟨s1, ⟨acc, hacc, pacc⟩, hii⟩
      refine ⟨rfl, _, rfl, a, _, 0, _, rfl, rfl, ha1, atI_nat (j := 0) rfl, rfl, _, rfl, ite2 (fun e => ?_) (fun e => ?_)⟩
      · have w0 : p.1 ≠ [] := fun z => by
          rw [z] at e
          exact absurd e (by decide +kernel)
        refine ⟨_, rfl, a, _, 1, _, rfl, rfl, ha1, atI_nat (j := 1) rfl, _, _, rfl, rfl, _, rfl, ite2 (fun e2 => ?_) (fun e2 => ?_)⟩
        · have t0 : 0 < p.2 := by
            have := of_decide_eq_true e2
            omega
          have k : keep p = true := by unfold keep; rw [decide_eq_true w0, decide_eq_true t0]; rfl
          have lacc := pacc.len
          have : ((ps.take i).filter keep).length ≤ i := Nat.le_trans (List.length_filter_le _ _) (by rw [List.length_take]; omega)
          refine ⟨_, rfl, acc, hacc, by rw [sizeLine_eq]; omega, same_upd2 hD s1, ⟨_, upd_same, ?_⟩, hii⟩
          rw [tk, if_pos k]
          exact (pacc.upd hacc).app (.one (by rw [upd_ne (fun z => by rw [z, hacc] at ha1; cases ha1)]; exact ha1))
        · refine no ?_
          unfold keep
          rw [decide_eq_false (p := 0 < p.2) (fun z => e2 (decide_eq_true (by omega))), Bool.and_false]
      · refine no ?_
        have w0 : p.1 = [] := Classical.byContradiction fun z => e (by
          rw [decide_eq_false (fun y => z (S_nil (V.str.inj y)))]
          rfl)
        unfold keep
        rw [decide_eq_false (p := p.1 ≠ []) (fun z => z w0), Bool.false_and]
    · obtain ⟨s1, hqs, _⟩ := p
      rw [len, List.take_length] at hqs
      have lqs : (ps.filter keep).length ≤ ps.length := List.length_filter_le _ _
      have lowq : ∀ p ∈ ps.filter keep, p.1.length ≤ 1000 ∧ Low p.1 ∧ p.1 ≠ [] ∧ p.2 ≠ 0 := fun p hp => by
        obtain ⟨a, b⟩ := List.mem_filter.mp hp
        have := ok.word p a
        unfold keep at b
        simp at b
        exact ⟨this.1, this.2, b.1, by omega⟩
      have ef := fold_keep ps []
      generalize hqq : ps.filter keep = qs at hqs lqs lowq ef
      obtain ⟨us, hus, pus⟩ := hqs
      have lus := pus.len
      have hr1 : H1 r = some (.lst []) := s1 _ _ upd_same
      refine ⟨D, rfl, ⟨_, .inl (.inl hus)⟩, for_list (K := K) (a := D) (xs := us) (fun i σ H' => Same H H' ∧ (∃ y2 y3, σ = [some (.ref l), some (.ref r), y2, y3, none]) ∧ H' D = some (.lst us) ∧ Pcs H' us qs ∧ PL H' r ((qs.take i).foldl stepT []) ∧ (∀ p ∈ (qs.take i).foldl stepT [], Low p.1))
        ⟨s0.trans s1, ⟨none, none, rfl⟩, hus, pus, ⟨[], hr1, .nil⟩, fun p h => absurd h List.not_mem_nil⟩ (fun i σ H' _ p => .inl (.inl p.2.2.1)) (fun i y σ H' hi p => ?_) (fun σ H' p => ?_)⟩
      · obtain ⟨s2, ⟨y2, y3, rfl⟩, hD2, pq, ⟨ws, hws, pw⟩, lowA⟩ := p
        obtain ⟨a, p, rfl, hpi, ha⟩ := pq.get hi
        have hlw := lowq p (List.mem_of_getElem? hpi)
        have hii := (List.getElem?_eq_some_iff.mp hpi).1
        have lacc := fold_len (qs.take i) []
        have lw := pw.len
        rw [List.length_take] at lacc
        have acc1000 : ws.length < sizeLine := by rw [sizeLine_eq]; simp at lacc; omega
        rw [show ((qs.take (i + 1)).foldl stepT [] : List Pc) = stepT ((qs.take i).foldl stepT []) p from take_step hpi]
        generalize hacc : (qs.take i).foldl stepT [] = acc at pw lw lacc lowA
        have np : ¬ (p.1 = [] ∨ p.2 = 0) := fun z => z.elim hlw.2.2.1 hlw.2.2.2
        have lowS : ∀ x ∈ stepT acc p, Low x.1 := fun x hx => by
          unfold stepT at hx
          rw [if_neg np] at hx
          split at hx
          · split at hx
            · rcases List.mem_append.mp hx with z | z
              · exact lowA x (List.dropLast_subset _ z)
              · rw [List.mem_singleton.mp z]; exact hlw.2.1
            · rcases List.mem_append.mp hx with z | z
              · exact lowA x z
              · rw [List.mem_singleton.mp z]; exact hlw.2.1
          · rcases List.mem_append.mp hx with z | z
            · exact lowA x z
            · rw [List.mem_singleton.mp z]; exact hlw.2.1
        have rD : r ≠ D := Ne.symm Dr
        refine ⟨a, _, rfl, .inl (.inl ha), rfl, _, _, rfl, _, _, rfl, rfl, ?_⟩
        refine ⟨_, rfl, by show 0 ≤ sizeLine; omega, fun m hm => ?_⟩
        have sm := sameNew (o := .lst []) hm
        have hws' := sm _ _ hws
        have pw' := pw.same sm
        have s3 := s2.trans sm
        have hD3 := sm _ _ hD2
        have pq3 := pq.same sm
        have app : ∀ {t : Addr}, upd H' m (.lst []) t = none → stepT acc p = acc ++ [p] → Same H (upd (upd (upd H' m (.lst [])) t (.tup [.str (S p.1), .int p.2])) r (.lst (ws ++ [.ref t]))) ∧
            (upd (upd (upd H' m (.lst [])) t (.tup [.str (S p.1), .int p.2])) r (.lst (ws ++ [.ref t]))) D = some (.lst us) ∧ Pcs (upd (upd (upd H' m (.lst [])) t (.tup [.str (S p.1), .int p.2])) r (.lst (ws ++ [.ref t]))) us qs ∧
            PL (upd (upd (upd H' m (.lst [])) t (.tup [.str (S p.1), .int p.2])) r (.lst (ws ++ [.ref t]))) r (stepT acc p) := by
          intro t ht e
          have := app_end s3 hr0 hws' pw' ht (p := p)
          have st := sameNew (o := .tup [V.str (S p.1), V.int p.2]) ht
          rw [e]
          exact ⟨this.1, by rw [upd_ne Dr]; exact st _ _ hD3, (pq3.same st).upd (st _ _ hws'), this.2⟩
        refine ⟨r, m, acc, rfl, rfl, ⟨ws, hws', pw'⟩, lowA, upd_same, _, rfl, ?_⟩
        cases hlast : ws.getLast? with
        | none =>
          have we : ws = [] := List.getLast?_eq_none_iff.mp hlast
          have ae : acc = [] := List.length_eq_zero_iff.mp (by rw [← lw, we]; rfl)
          have es : stepT acc p = acc ++ [p] := by unfold stepT; rw [if_neg np, ae]; rfl
          rw [show (!acc.isEmpty) = false by rw [ae]; rfl]
          refine iteF ⟨_, rfl, .inl ⟨rfl, _, .inl (.inl hws')⟩, _, rfl, _, rfl, by show 2 ≤ sizeLine; decide, fun t ht => ⟨r, _, _, rfl, rfl, sameNew ht _ _ hws', acc1000, ?_⟩⟩
          obtain ⟨A1, A2, A3, A4⟩ := app ht es
          exact ⟨A1, ⟨_, _, rfl⟩, A2, A3, A4, lowS⟩
        | some v =>
          have hv : ws[ws.length - 1]? = some v := by rw [← List.getLast?_eq_getElem?]; exact hlast
          obtain ⟨b, q', rfl, hq, hb⟩ := pw'.get hv
          have hq' : acc.getLast? = some q' := by rw [List.getLast?_eq_getElem?, ← lw]; exact hq
          rw [show (!acc.isEmpty) = true by
            cases acc with
            | nil => cases hq'
            | cons _ _ => rfl]
          refine iteT ⟨_, rfl, 1, rfl, r, _, -1, _, rfl, rfl, .inl (.inl hws'), last_at hv, b, _, 0, _, rfl, rfl, .inl (.inl hb), atI_nat (j := 0) rfl, _, rfl, rfl, _, rfl, ite2 (fun e => ?_) (fun e => ?_)⟩
          · have e1 : q'.1 = p.1 := S_inj (V.str.inj (of_decide_eq_true e))
            have es : stepT acc p = acc.dropLast ++ [(p.1, p.2 + q'.2)] := by unfold stepT; rw [if_neg np, hq']; simp [e1]
            obtain ⟨sl1, sl2⟩ := set_last (v := V.ref b) hv
            refine ⟨_, rfl, _, rfl, 1, rfl, r, _, -1, _, rfl, rfl, .inl (.inl hws'), last_at hv, b, _, 1, _, rfl, rfl, .inl (.inl hb), atI_nat (j := 1) rfl, _, rfl, _, _, rfl, rfl, by show 2 ≤ sizeLine; decide, fun t ht => ?_⟩
            have st := sameNew (o := .tup [V.str (S p.1), V.int ((q'.2 : Int) + (p.2 : Int))]) ht
            have tr : t ≠ r := fun z => by rw [z, hws'] at ht; cases ht
            refine ⟨_, rfl, 1, rfl, r, _, -1, ws.length - 1, rfl, rfl, st _ _ hws', sl1, ?_⟩
            refine ⟨same_upd2 hr0 (s3.trans st), ⟨_, _, rfl⟩, by rw [upd_ne Dr]; exact st _ _ hD3, (pq3.same st).upd (st _ _ hws'), ?_, lowS⟩
            rw [es]
            refine ⟨_, upd_same, ?_⟩
            rw [(set_last hv).2]
            refine ((pw'.init.same st).upd (st _ _ hws')).app (.one ?_)
            rw [upd_ne tr, upd_same]
            exact congrArg (fun z => some (HO.tup [V.str (S p.1), V.int z])) (by show (q'.2 : Int) + p.2 = ((p.2 + q'.2 : Nat) : Int); omega)
          · have e1 : ¬ q'.1 = p.1 := fun z => e (by rw [z]; exact decide_eq_true rfl)
            have es : stepT acc p = acc ++ [p] := by unfold stepT; rw [if_neg np, hq']; simp [e1]
            refine ⟨_, rfl, .inl ⟨rfl, _, .inl (.inl hws')⟩, _, rfl, _, rfl, by show 2 ≤ sizeLine; decide, fun t ht => ⟨r, _, _, rfl, rfl, sameNew ht _ _ hws', acc1000, ?_⟩⟩
            obtain ⟨A1, A2, A3, A4⟩ := app ht es
            exact ⟨A1, ⟨_, _, rfl⟩, A2, A3, A4, lowS⟩
      · obtain ⟨s2, ⟨y2, y3, rfl⟩, hD2, pq, PR, _⟩ := p
        rw [lus, List.take_length, ef] at PR
        exact ⟨_, rfl, q r H' s2 hr0 PR⟩
end
end K04K

set_option Elab.async false
set_option linter.all false
set_option maxRecDepth 100000
set_option maxHeartbeats 4000000
namespace K04K
open K04 PySem PySem.Spec PyProof.Rows L2 CK SX KM
/-! ### the law's part: a stretch only where there is one -/
def cutL (lo hi s : Nat) (p : Pc) : List Pc := if max lo s - s < min hi (s + plen p) - s then two p.1 (lo - s) (min hi (s + plen p) - s) else []
def cutLF (lo hi : Nat) (s : Nat) : List Pc → List Pc
  | [] => []
  | p :: r => cutL lo hi s p ++ cutLF lo hi (s + plen p) r
theorem cutL_fold {lo hi s : Nat} {p : Pc} (hle : lo ≤ hi) (ne : p.1 ≠ []) (acc : List Pc) : (cutL lo hi s p).foldl stepT acc = (cut1 lo hi s p).foldl stepT acc := by
  have n0 := List.length_pos_iff.mpr ne
  unfold cutL cut1
  by_cases h : max lo s - s < min hi (s + plen p) - s
  · rw [if_pos h, if_pos ⟨by omega, by omega⟩]
  · rw [if_neg h]
    by_cases g : s < hi ∧ lo < s + plen p
    · rw [if_pos g]
      have e : min hi (s + plen p) - s - (lo - s) = 0 := by omega
      unfold two
      rw [e, Nat.zero_div, Nat.zero_mod]
      simp [stepT]
    · rw [if_neg g]
theorem cutLF_fold {lo hi : Nat} (hle : lo ≤ hi) : ∀ (ps : List Pc) (s : Nat) (acc : List Pc), (∀ p ∈ ps, p.1 ≠ []) → (cutLF lo hi s ps).foldl stepT acc = (cutF lo hi s ps).foldl stepT acc
  | [], _, _, _ => rfl
  | p :: r, s, acc, h => by
    rw [cutLF, cutF, List.foldl_append, List.foldl_append, cutL_fold hle (h p List.mem_cons_self), cutLF_fold hle r _ _ fun q hq => h q (List.mem_cons_of_mem _ hq)]
theorem cutL_sub {lo hi s : Nat} {p : Pc} : cutL lo hi s p = [] ∨ cutL lo hi s p = cut1 lo hi s p := by
  unfold cutL cut1
  by_cases h : max lo s - s < min hi (s + plen p) - s
  · rw [if_pos h, if_pos ⟨by omega, by omega⟩]
    exact .inr rfl
  · rw [if_neg h]
    exact .inl rfl
theorem cutLF_app (lo hi : Nat) : ∀ (a b : List Pc) (s : Nat), cutLF lo hi s (a ++ b) = cutLF lo hi s a ++ cutLF lo hi (s + long a) b
  | [], b, s => by simp [cutLF, long]
  | p :: r, b, s => by
    rw [List.cons_append, cutLF, cutLF, cutLF_app lo hi r b, List.append_assoc]
    simp [long, Nat.add_assoc]
theorem cutLF_take {ps : List Pc} {i lo hi : Nat} {p : Pc} (h : ps[i]? = some p) : cutLF lo hi 0 (ps.take (i + 1)) = cutLF lo hi 0 (ps.take i) ++ cutL lo hi (long (ps.take i)) p := by
  have e : ps.take (i + 1) = ps.take i ++ [p] := by rw [List.take_succ, h]; rfl
  rw [e, cutLF_app]
  simp [cutLF]
theorem OK.cutL {lo hi n : Nat} {ps : List Pc} (h : OK n ps) (ne : ∀ p ∈ ps, p.1 ≠ []) : OK (2 * n) (cutLF lo hi 0 ps) := by
  have key : ∀ (ps : List Pc) (s : Nat), (∀ p ∈ ps, p.1.length ≤ 1000 ∧ Low p.1) → (∀ p ∈ ps, p.1 ≠ []) →
      (∀ q ∈ cutLF lo hi s ps, q.1.length ≤ 1000 ∧ Low q.1) ∧ ((cutLF lo hi s ps).map (·.2)).sum ≤ (ps.map (·.2)).sum + ps.length ∧ (cutLF lo hi s ps).length ≤ 2 * ps.length := by
    intro ps
    induction ps with
    | nil => exact fun s _ _ => ⟨fun q hq => absurd hq List.not_mem_nil, Nat.zero_le _, Nat.zero_le _⟩
    | cons p r ih =>
      intro s h1 h2
      obtain ⟨a, b⟩ := ok_cut1 (lo := lo) (hi := hi) (s := s) (h1 p List.mem_cons_self) (h2 p List.mem_cons_self)
      obtain ⟨c, d, e⟩ := ih (s + plen p) (fun q hq => h1 q (List.mem_cons_of_mem _ hq)) (fun q hq => h2 q (List.mem_cons_of_mem _ hq))
      have l1 : (cut1 lo hi s p).length ≤ 2 := by unfold cut1 two; split <;> simp
      have f : (∀ q ∈ K04K.cutL lo hi s p, q.1.length ≤ 1000 ∧ Low q.1) ∧ ((K04K.cutL lo hi s p).map (·.2)).sum ≤ p.2 + 1 ∧ (K04K.cutL lo hi s p).length ≤ 2 := by
        rcases cutL_sub (lo := lo) (hi := hi) (s := s) (p := p) with z | z
        · rw [z]
          exact ⟨fun q hq => absurd hq List.not_mem_nil, Nat.zero_le _, Nat.zero_le _⟩
        · rw [z]
          exact ⟨a, b, l1⟩
      refine ⟨fun q hq => ?_, ?_, ?_⟩
      · rcases List.mem_append.mp hq with z | z
        · exact f.1 q z
        · exact c q z
      · rw [cutLF, List.map_append, List.sum_append]
        simp
        omega
      · rw [cutLF, List.length_append, List.length_cons]
        omega
  obtain ⟨a, b, c⟩ := key ps 0 h.word ne
  have := h.len
  have lt : ∀ (qs : List Pc) (s : Nat), ((cutLF lo hi s qs).map (·.1.length)).sum ≤ 2 * (qs.map (·.1.length)).sum := fun qs => by
    induction qs with
    | nil => exact fun s => Nat.zero_le _
    | cons p r ih =>
      intro s
      have b := ih (s + plen p)
      rw [cutLF, List.map_append, List.sum_append, List.map_cons, List.sum_cons]
      have a : ((K04K.cutL lo hi s p).map (·.1.length)).sum ≤ 2 * p.1.length := by
        rcases cutL_sub (lo := lo) (hi := hi) (s := s) (p := p) with z | z
        · rw [z]; exact Nat.zero_le _
        · rw [z]; exact lets_cut1
      omega
  refine ⟨by omega, a, ?_, Nat.le_trans (lt ps 0) (by have := h.lets; omega)⟩
  have h3 := h.num
  have h4 : 2 * n * 2 ^ 200 = n * 2 ^ 200 + n * 2 ^ 200 := by rw [Nat.mul_assoc, Nat.two_mul]
  have h5 : n ≤ n * 2 ^ 200 := Nat.le_mul_of_pos_right _ (Nat.two_pow_pos _)
  omega
theorem law_part_eq {lo hi : Nat} {ps : List Pc} (hle : lo ≤ hi) (h : ∀ p ∈ ps, p.1 ≠ []) : tidy (cutLF lo hi 0 ps) = KM.part ps lo hi := cutLF_fold hle ps 0 [] h
theorem rot_map {w : List Nat} (k : Nat) : (List.range w.length).map (fun i => V.str (S [(rot w k).getD i 0])) = ((rot w k).map fun c => S [c]).map V.str := by
  refine List.ext_getElem? fun i => ?_
  have rl := rot_len w k
  by_cases hi : i < w.length
  · rw [List.getElem?_map, List.getElem?_range hi, List.getElem?_map, List.getElem?_map, List.getElem?_eq_getElem (by omega)]
    show some (V.str (S [(rot w k).getD i 0])) = some (V.str (S [(rot w k)[i]]))
    rw [List.getD_eq_getElem?_getD, List.getElem?_eq_getElem (by omega)]
    rfl
  · rw [List.getElem?_eq_none (by simp; omega), List.getElem?_eq_none (by simp; omega)]
section
variable {P : Program} {w : World} {K : PySem.W.Frag} {mg : Str → Option Value} {base : Heap} {C : Addr}
def sp_lpart : Sp := fun vs H Q _ => ∃ (l : Addr) (ps : List Pc) (n lo hi : Nat), vs = [.ref l, .int lo, .int hi] ∧ PL H l ps ∧ OK n ps ∧ 2 * n ≤ 1000 ∧ (∀ p ∈ ps, p.1 ≠ []) ∧ lo ≤ hi ∧ ∀ r H', Same H H' → H r = none → PL H' r (KM.part ps lo hi) → Q (.ref r) H'
theorem c_law_part (T : Txt K mg C) : C8.Cal P w K mg base 2 "_law_part" sp_lpart [] := by
  refine calF T.d_law_part sc_law_part (fun vs H Q E h => ?_) (fun f cdv A outer s H vs Q E hr h => ?_)
  · obtain ⟨_, _, _, _, _, rfl, _⟩ := h; rfl
  · obtain ⟨l, ps, n, lo, hi, rfl, ⟨vs, hl, hp⟩, ok, hn, ne, hle, q⟩ := h
    have len := hp.len
    have okl := ok.len
    refine ⟨_, (pss_cons (ps_par (i := 3) (j := 4) (by rfl) sc_law_part.nd rfl rfl (by decide) rfl rfl (pa_cons (pe_lst pa_nil) (pa_cons pe_int pa_nil)) (by rfl))
    (pss_cons (ps_for PassesOwn.never rfl (pi_list (pv 0)) (pg_two (K := K) (i := 5) (j := 6) rfl rfl sc_law_part.nd rfl rfl (Or.inr rfl) (Or.inl rfl))
    (pss_cons (ps_set (i := 7) sc_law_part.nd rfl (Or.inl rfl) (pe_op op_add (pv 4) (pe_op op_mulZ (pe_callB call_len_str (by rfl) T.m_len (by decide +kernel) (pa_cons (pv 5) pa_nil)) (pv 6))))
    (pss_cons (ps_asg (pe_tup (pa_cons (pe_op op_sub (pe_callB (call_max2 rfl) (by rfl) T.m_max (by decide +kernel) (pa_cons (pv 1) (pa_cons (pv 4) pa_nil))) (pv 4)) (pa_cons (pe_op op_sub (pe_callB (call_min2 rfl) (by rfl) T.m_min (by decide +kernel) (pa_cons (pv 2) (pa_cons (pv 7) pa_nil))) (pv 4)) pa_nil))) (pg_two (K := K) (i := 8) (j := 9) rfl rfl sc_law_part.nd rfl rfl (Or.inr rfl) (Or.inl rfl)))
    (pss_cons (ps_if (pt_cmpR op_lt (pv 8) (pv 9) (nomark _))
    (pss_cons (ps_set (i := 10) sc_law_part.nd rfl (Or.inl rfl) (pe_join pe_str (pe_lc (own := [("_law_at", 11)]) (by rfl) sc_law_part.nd (pi_range1 (by rfl) T.m_range (pa_cons (pe_callB call_len_str (by rfl) T.m_len (by decide +kernel) (pa_cons (pv 5) pa_nil)) pa_nil)) (blkOk_by (N := ["_law_pieces_here", "_law_low", "_law_high", "_law_found", "_law_start", "_law_word_here", "_law_times", "_law_end", "_law_one", "_law_other", "_law_ahead", "_law_at"]) (sc := C8.fnScope (topS 53)) (own := [("_law_at", 11)]) (by decide +kernel)) (fun _ _ _ _ _ => (pg_name (i := 11) sc_law_part.nd rfl (Or.inl rfl))) (fun _ _ _ _ _ => pts_nil) (fun _ _ _ _ _ => (pe_ix ix_str (pv 5) (pe_op op_modZ (pe_callTy call_int1 (by rfl) T.m_int (by decide +kernel) (pa_cons (pe_op op_add (pv 8) (pv 11)) pa_nil)) (pe_callB call_len_str (by rfl) T.m_len (by decide +kernel) (pa_cons (pv 5) pa_nil))) (fun _ _ => rfl))))))
    (pss_cons (ps_expr (pe_bm PySem.F.plainAttrs_list PySem.F.slot_list_append PySem.F.type_list_append mt_append (pv 3) (pa_cons (pe_tup (pa_cons (pv 10) (pa_cons (pe_op op_fdivZ (pe_op op_sub (pv 9) (pv 8)) (pe_callB call_len_str (by rfl) T.m_len (by decide +kernel) (pa_cons (pv 5) pa_nil))) pa_nil))) pa_nil)))
    (pss_one (ps_expr (pe_bm PySem.F.plainAttrs_list PySem.F.slot_list_append PySem.F.type_list_append mt_append (pv 3) (pa_cons (pe_tup (pa_cons (pe_slice C8.sl_txt (pv 10) po_none (po_some (pe_op op_modZ (pe_callTy call_int1 (by rfl) T.m_int (by decide +kernel) (pa_cons (pe_op op_sub (pv 9) (pv 8)) pa_nil)) (pe_callB call_len_str (by rfl) T.m_len (by decide +kernel) (pa_cons (pv 5) pa_nil))))) (pa_cons pe_int pa_nil))) pa_nil))))))
    pss_nil)
    (pss_one (ps_set (i := 4) sc_law_part.nd rfl (Or.inl rfl) (pv 7)))))))
    (pss_one (ps_ret (C8.pe_c (c_law_tidied T) hr (by decide) (by rfl) (pa_cons (pv 3) pa_nil)))))), ?_⟩
    refine ⟨by show 0 ≤ sizeLine; omega, fun r hr0 => ⟨_, _, rfl, ?_⟩⟩
    have s0 := sameNew (o := .lst []) hr0
    refine ⟨_, rfl, l, rfl, ⟨_, .inl (.inl (s0 _ _ hl))⟩, for_list (K := K) (a := l) (xs := vs) (fun i σ H' => Same H H' ∧ (∃ (z : Int) (y5 y6 y7 y8 y9 y10 : Option V), σ = [some (.ref l), some (.int lo), some (.int hi), some (.ref r), some (.int z), y5, y6, y7, y8, y9, y10, none] ∧ z = ((long (ps.take i) : Nat) : Int)) ∧ PL H' r (cutLF lo hi 0 (ps.take i)) ∧ (cutLF lo hi 0 (ps.take i)).length ≤ 2 * i)
      ⟨s0, ⟨0, none, none, none, none, none, none, rfl, rfl⟩, ⟨[], upd_same, .nil⟩, Nat.zero_le _⟩ (fun i σ H' _ p => .inl (.inl (p.1 _ _ hl))) (fun i y σ H' hi' p => ?_) (fun σ H' p => ?_)⟩
    · obtain ⟨s1, ⟨z, y5, y6, y7, y8, y9, y10, rfl, rfl⟩, ⟨ws, hws, pw⟩, hcl⟩ := p
      obtain ⟨a, p, rfl, hpi, ha⟩ := hp.get hi'
      have hmem := List.mem_of_getElem? hpi
      have hwp := ok.word p hmem
      have htp := ok.times (by omega) hmem
      have hnep := ne p hmem
      have n0 := List.length_pos_iff.mpr hnep
      have hii := (List.getElem?_eq_some_iff.mp hpi).1
      have lw := pw.len
      have pe : plen p = p.1.length * p.2 := rfl
      have lt := long_take hpi
      rw [show cutLF lo hi 0 (ps.take (i + 1)) = _ from cutLF_take hpi]
      generalize hs : long (ps.take i) = s0' at lt
      refine ⟨a, _, rfl, .inl (.inl (s1 _ _ ha)), rfl, _, _, rfl, _, _, rfl, rfl, ?_⟩
      refine ⟨_, rfl, _, rfl, S p.1, rfl, len_line (by omega), _, rfl, p.1.length, p.2, congrArg (fun n : Nat => V.int n) (S_len _), rfl, by omega, by omega, _, _, rfl, rfl, ?_⟩
      refine ⟨_, rfl, _, rfl, _, _, rfl, _, rfl, _, _, rfl, rfl, _, rfl, _, rfl, _, _, rfl, _, rfl, _, _, rfl, rfl, by show 2 ≤ sizeLine; decide, fun t ht => ?_⟩
      refine ⟨t, _, rfl, .inl (.inl upd_same), rfl, _, _, rfl, _, _, rfl, rfl, ?_⟩
      have st := sameNew (o := .tup [V.int ((if ((s0' : Nat) : Int) > (lo : Int) then ((s0' : Nat) : Int) else (lo : Int)) - ((s0' : Nat) : Int)), V.int ((if ((s0' : Nat) : Int) + ((p.1.length * p.2 : Nat) : Int) < (hi : Int) then ((s0' : Nat) : Int) + ((p.1.length * p.2 : Nat) : Int) else (hi : Int)) - ((s0' : Nat) : Int))]) ht
      have x1 : (if ((s0' : Nat) : Int) > (lo : Int) then ((s0' : Nat) : Int) else (lo : Int)) - ((s0' : Nat) : Int) = ((lo - s0' : Nat) : Int) := by split <;> omega
      refine ⟨_, rfl, _, rfl, _, _, rfl, rfl, _, rfl, ite2 (fun c => ?_) (fun c => ?_)⟩
      · have c' := of_decide_eq_true c
        have x2 : (if ((s0' : Nat) : Int) + ((p.1.length * p.2 : Nat) : Int) < (hi : Int) then ((s0' : Nat) : Int) + ((p.1.length * p.2 : Nat) : Int) else (hi : Int)) - ((s0' : Nat) : Int) = ((min hi (s0' + plen p) - s0' : Nat) : Int) := by
          split at c' <;> split at c' <;> split <;> omega
        have cc : max lo s0' - s0' < min hi (s0' + plen p) - s0' := by
          split at c' <;> split at c' <;> omega
        have ec : cutL lo hi s0' p = two p.1 (lo - s0') (min hi (s0' + plen p) - s0') := by unfold cutL; rw [if_pos cc]
        generalize hb : min hi (s0' + plen p) - s0' = b at x2 ec
        generalize ha' : lo - s0' = a' at x1 ec
        have rl := rot_len p.1 (a' % p.1.length)
        have hm := Nat.mod_lt a' n0
        refine ⟨⟨_, rfl⟩, _, rfl, S p.1, rfl, len_line (by omega), _, rfl, by rw [S_len]; omega, by rw [S_len]; omega, fun D hD => ?_⟩
        refine lcR_map (lo := 0) (n := (((S p.1).length : Nat) : Int).toNat) (fun i => V.str (S [(rot p.1 (a' % p.1.length)).getD i 0])) (small1000 (by rw [S_len]; omega)) (fun j H3 R hj s3 q' => ?_) hD fun H3 s3 hL => ?_
        · rw [S_len, Int.toNat_natCast] at hj
          refine ⟨rfl, _, rfl, _, rfl, _, rfl, _, _, rfl, rfl, .inl ⟨_, rfl, _, rfl, S p.1, rfl, len_line (by omega), a' + j, p.1.length, congrArg V.int (by rw [x1]; omega), congrArg (fun n : Nat => V.int n) (S_len _), by omega, ?_⟩⟩
          refine ⟨_, _, (rot p.1 (a' % p.1.length)).getD j 0, rfl, rfl, len_line (by omega), atI_nat (xs := p.1) ?_, q' _ (Same.refl _)⟩
          rw [← Nat.mod_add_mod, ← rot_get hm hj, List.getD_eq_getElem?_getD, List.getElem?_eq_getElem (by omega)]
          rfl
        · rw [S_len, Int.toNat_natCast, rot_map] at hL
          have ll : ∀ l : List Nat, ((l.map fun c => S [c]).map fun x => x.length).sum = l.length := by
            intro l
            induction l with
            | nil => rfl
            | cons c r ih => rw [List.map_cons, List.map_cons, List.sum_cons, ih, S_len]; simp; omega
          refine ⟨Str.ofString "", D, (rot p.1 (a' % p.1.length)).map fun c => S [c], rfl, rfl, .inl (.inl (.inl hL)), by rw [ll, List.length_map, show (Str.ofString "").length = 0 by decide +kernel]; omega, ?_⟩
          rw [join_S1]
          have s4 := st.trans s3
          have hw4 := s4 _ _ hws
          have hab : a' ≤ b := by omega
          refine ⟨_, rfl, .inl ⟨rfl, _, .inl (.inl hw4)⟩, _, rfl, _, rfl, _, rfl, _, _, rfl, rfl, _, rfl, S p.1, rfl, len_line (by omega), b - a', p.1.length, congrArg V.int (by rw [x2, x1]; omega), congrArg (fun n : Nat => V.int n) (S_len _), by omega, by omega, by show 2 ≤ sizeLine; decide, fun t1 h1 => ⟨r, _, _, rfl, rfl, sameNew h1 _ _ hw4, by rw [sizeLine_eq]; omega, ?_⟩⟩
          have A := app_end (s1.trans s4) hr0 hw4 (pw.same s4) h1 (p := (rot p.1 (a' % p.1.length), (b - a') / p.1.length))
          refine ⟨_, rfl, .inl ⟨rfl, _, .inl (.inl upd_same)⟩, _, rfl, _, rfl, _, rfl, _, _, rfl, rfl, .inl ⟨_, rfl, _, rfl, S p.1, rfl, len_line (by omega), b - a', p.1.length, congrArg V.int (by rw [x2, x1]; omega), congrArg (fun n : Nat => V.int n) (S_len _), by omega, ?_⟩⟩
          refine ⟨_, rfl, S (rot p.1 (a' % p.1.length)), rfl, len_line (by omega), ?_⟩
          rw [SX.slice_to (by omega), Int.toNat_natCast]
          refine ⟨by show 2 ≤ sizeLine; decide, fun t2 h2 => ⟨r, _, _, rfl, rfl, sameNew h2 _ _ upd_same, by rw [List.length_append, sizeLine_eq]; simp; omega, ?_⟩⟩
          obtain ⟨ws2, hws2, pw2⟩ := A.2
          have hws3 := upd_same.symm.trans hws2
          cases hws3
          have B := app_end A.1 hr0 hws2 pw2 h2 (p := ((rot p.1 (a' % p.1.length)).take ((b - a') % p.1.length), 1))
          refine ⟨_, rfl, B.1, ⟨_, _, _, _, _, _, _, rfl, by rw [lt, pe]; omega⟩, ?_, ?_⟩
          · have e : cutLF lo hi 0 (ps.take i) ++ two p.1 a' b = cutLF lo hi 0 (ps.take i) ++ [(rot p.1 (a' % p.1.length), (b - a') / p.1.length)] ++ [((rot p.1 (a' % p.1.length)).take ((b - a') % p.1.length), 1)] := by
              rw [List.append_assoc]
              rfl
            rw [ec, e]
            exact B.2
          · rw [ec, List.length_append]
            show _ + 2 ≤ _
            omega
      · have c' : ¬ _ := fun z => c (decide_eq_true z)
        have cc : ¬ (max lo s0' - s0' < min hi (s0' + plen p) - s0') := fun z => c' (by split <;> split <;> omega)
        have ec : cutL lo hi s0' p = [] := by unfold cutL; rw [if_neg cc]
        refine ⟨_, rfl, s1.trans st, ⟨_, _, _, _, _, _, _, rfl, by rw [lt, pe]; omega⟩, ?_, ?_⟩
        · rw [ec, List.append_nil]
          exact ⟨ws, st _ _ hws, pw.same st⟩
        · rw [ec, List.append_nil]
          omega
    · obtain ⟨s1, ⟨z, y5, y6, y7, y8, y9, y10, rfl, _⟩, h, hcl⟩ := p
      rw [len, List.take_length] at h
      have okL := ok.cutL (lo := lo) (hi := hi) ne
      refine ⟨_, rfl, r, _, 2 * n, rfl, h, okL, hn, fun r2 H2 s2 n2 P2 => ?_⟩
      rw [law_part_eq hle ne] at P2
      exact q r2 H2 (s1.trans s2) (s1.free n2) P2
end
end K04K

set_option Elab.async false
set_option linter.all false
set_option maxRecDepth 100000
set_option maxHeartbeats 8000000
set_option exponentiation.threshold 1000
namespace K04K
open K04 PySem PySem.Spec PyProof.Rows L2 CK SX KM
theorem tnext_eq (D : Ends) (σ : L2.St) (H : Hp) : tNext D σ H = D.nx σ H := rfl
theorem PL.sameX {g : Addr} {H H' : Hp} {l : Addr} {ps : List Pc} {n : Nat} (h : PL H l ps) (G : Gn n H g) (s : SameX g H H') : PL H' l ps := by
  obtain ⟨vs, e, p⟩ := h
  refine ⟨vs, s _ _ (fun z => ?_) e, p.mono fun a xs ha => s.tup G ha⟩
  subst z
  obtain ⟨a, b, c, h1, _⟩ := G
  rw [e] at h1
  cases h1
  cases p
theorem PL.ne {g : Addr} {H : Hp} {l : Addr} {ps : List Pc} {n : Nat} (h : PL H l ps) (G : Gn n H g) : l ≠ g := fun z => by
  obtain ⟨vs, e, p⟩ := h
  subst z
  obtain ⟨a, b, c, h1, _⟩ := G
  rw [e] at h1
  cases h1
  cases p
theorem Pcs.takeK {H : Hp} {vs : List V} {ps : List Pc} (h : Pcs H vs ps) (k : Nat) : Pcs H (vs.take k) (ps.take k) := by
  induction h generalizing k with
  | nil => simp; exact .nil
  | cons e h ih =>
    cases k with
    | zero => exact .nil
    | succ k => exact .cons e (ih k)
theorem Pcs.dropK {H : Hp} {vs : List V} {ps : List Pc} (h : Pcs H vs ps) (k : Nat) : Pcs H (vs.drop k) (ps.drop k) := by
  induction h generalizing k with
  | nil => simp; exact .nil
  | cons e h ih =>
    cases k with
    | zero => exact .cons e h
    | succ k => exact ih k
/-- the letters of all words -/
def lts (ps : List Pc) : Nat := (ps.map (·.1.length)).sum
def cnts (ps : List Pc) : Nat := (ps.map (·.2)).sum
theorem lts_app (a b : List Pc) : lts (a ++ b) = lts a + lts b := by unfold lts; rw [List.map_append, List.sum_append]
theorem cnts_app (a b : List Pc) : cnts (a ++ b) = cnts a + cnts b := by unfold cnts; rw [List.map_append, List.sum_append]
/-- another spelling of one piece -/
structure Way (p : Pc) (qs : List Pc) : Prop where
  same : wr qs = WM.pw p.1 p.2
  len : qs.length ≤ 4
  word : ∀ q ∈ qs, q.1.length ≤ 2 * p.1.length ∧ Low q.1
  lets : lts qs ≤ 3 * p.1.length
  cnt : cnts qs ≤ p.2 + 3
/-- lists within bounds: pieces, letters of a word, of all words, numbers -/
structure SB (k m s t : Nat) (ps : List Pc) : Prop where
  len : ps.length ≤ k
  word : ∀ p ∈ ps, p.1.length ≤ m ∧ Low p.1
  lets : lts ps ≤ s
  cnt : cnts ps ≤ t
theorem split_at {ps : List Pc} {i : Nat} {p : Pc} (h : ps[i]? = some p) : ps = ps.take i ++ [p] ++ ps.drop (i + 1) := by
  have hi := (List.getElem?_eq_some_iff.mp h).1
  conv => lhs; rw [← List.take_append_drop i ps, List.drop_eq_getElem_cons hi]
  rw [List.append_assoc]
  congr 2
  exact (List.getElem?_eq_some_iff.mp h).2
theorem SB.step {k m s t : Nat} {ps qs : List Pc} (h : SB k m s t ps) {i : Nat} {p : Pc} (hp : ps[i]? = some p) (w : Way p qs) : SB (k + 3) (2 * m) (s + 2 * m) (t + 3) (ps.take i ++ qs ++ ps.drop (i + 1)) ∧ wr (ps.take i ++ qs ++ ps.drop (i + 1)) = wr ps := by
  have e := split_at hp
  have hw := h.word p (List.mem_of_getElem? hp)
  have el : lts ps = lts (ps.take i) + p.1.length + lts (ps.drop (i + 1)) := by
    conv => lhs; rw [e]
    rw [lts_app, lts_app]
    show _ + (p.1.length + 0) + _ = _
    omega
  have ec : cnts ps = cnts (ps.take i) + p.2 + cnts (ps.drop (i + 1)) := by
    conv => lhs; rw [e]
    rw [cnts_app, cnts_app]
    show _ + (p.2 + 0) + _ = _
    omega
  have hi := (List.getElem?_eq_some_iff.mp hp).1
  have l := h.len
  have l2 := h.lets
  have l3 := h.cnt
  have w1 := w.len
  have w2 := w.lets
  have w3 := w.cnt
  refine ⟨⟨?_, fun q hq => ?_, ?_, ?_⟩, ?_⟩
  · rw [List.length_append, List.length_append, List.length_take, List.length_drop]
    omega
  · rcases List.mem_append.mp hq with hq | hq
    · rcases List.mem_append.mp hq with hq | hq
      · have := h.word q (List.mem_of_mem_take hq)
        exact ⟨by omega, this.2⟩
      · have := w.word q hq
        exact ⟨by omega, this.2⟩
    · have := h.word q (List.mem_of_mem_drop hq)
      exact ⟨by omega, this.2⟩
  · rw [lts_app, lts_app]
    omega
  · rw [cnts_app, cnts_app]
    omega
  · conv => rhs; rw [e]
    rw [wr_app, wr_app, wr_app, wr_app, w.same]
    congr 2
    simp [wr]
section
variable {P : Program} {w : World} {K : PySem.W.Frag} {mg : Str → Option Value} {base : Heap} {C : Addr}
theorem once_tail (T : Txt K mg C) (f0 : Addr) (cdv : Value) (A : Around) (outer : List Env) (s0 : Shared) (H0 : Hp) (E : XK) (hr : Room 3 (A.deeper (envOfC "_law_spelled_once" (C8.fnScope (topS 54)) s0.heap.objs.size f0 cdv))) :
    ∃ u, PSs (cxOf C8.CX0 P w K mg base ["_law_generator_here", "_law_pieces_here", "_law_at", "_law_found", "_law_word_here", "_law_times", "_law_kind", "_law_by", "_law_less", "_law_ways", "_law_ahead"] "_law_spelled_once" (C8.fnScope (topS 54)) f0 cdv A outer s0 H0 E).nox ((C8.fnBody (topS 54)).drop 6) u ∧
      ∀ (D : Ends) (H : Hp) (v0 v1 v4 v5 v7 v8 y10 : Option V) (F W : Addr) (ps : List Pc) (p : Pc) (i kd : Nat) (Ws : List Addr), PL H F ps → ps.length ≤ 500 → ps[i]? = some p → H W = some (.lst (Ws.map V.ref)) → 1 ≤ Ws.length → Ws.length ≤ 10 → (∀ a ∈ Ws, ∃ qs, PL H a qs ∧ Way p qs) →
        (∀ r qs H', Same H H' → H r = none → PL H' r (ps.take i ++ qs ++ ps.drop (i + 1)) → Way p qs → D.rt (.ref r) H') →
        u D [v0, v1, some (.int (i : Nat)), some (.ref F), v4, v5, some (.int (kd : Nat)), v7, v8, some (.ref W), y10] H := by
  refine ⟨_, (pss_one (ps_ret (pe_op op_cat (pe_op op_cat (pe_slice sl_list (pv 3) po_none (po_some (pv 2))) (pe_ix ix_list (pv 9) (pe_op op_modN (pe_callTy call_int1 (by rfl) T.m_int (by decide +kernel) (pa_cons (pv 6) pa_nil)) (pe_callB call_len_seq (by rfl) T.m_len (by decide +kernel) (pa_cons (pv 9) pa_nil))) (fun _ _ => rfl))) (pe_slice sl_list (pv 3) (po_some (pe_op op_add (pv 2) pe_int)) po_none)))), ?_⟩
  intro D H v0 v1 v4 v5 v7 v8 y10 F W ps p i kd Ws hF hl hp hW w1 w10 hq q
  obtain ⟨vs, hvs, pvs⟩ := id hF
  have lv := pvs.len
  have hi := (List.getElem?_eq_some_iff.mp hp).1
  refine ⟨_, rfl, _, rfl, i, rfl, F, vs, rfl, .inl (.inl hvs), fun p1 np1 => ?_⟩
  have sp1 := sameNew (o := .lst (cutV vs none (some (i : Int)))) np1
  have kl := Nat.mod_lt kd (show Ws.length > 0 by omega)
  have hk : (Ws.map V.ref)[kd % Ws.length]? = some (.ref Ws[kd % Ws.length]) := by rw [List.getElem?_map, List.getElem?_eq_getElem kl]; rfl
  have mem := List.getElem_mem kl
  generalize Ws[kd % Ws.length] = wa at hk mem
  obtain ⟨qs, ⟨us, hus, pus⟩, way⟩ := hq wa mem
  have lu := pus.len
  have wl := way.len
  have hW1 := sp1 _ _ hW
  refine ⟨_, rfl, _, rfl, .inl ⟨_, rfl, _, rfl, W, _, rfl, .inl (.inl (.inl hW1)), _, _, rfl, rfl, (by rw [List.length_map]; omega : (((Ws.map V.ref).length : Nat) : Int) ≠ 0), ?_⟩⟩
  have e0 : Int.fmod (kd : Int) (((Ws.map V.ref).length : Nat) : Int) = ((kd % Ws.length : Nat) : Int) := by
    rw [List.length_map, Int.fmod_eq_emod_of_nonneg _ (by omega)]
    rfl
  dsimp only
  rw [e0]
  refine ⟨W, _, ((kd % Ws.length : Nat) : Int), .ref wa, rfl, rfl, .inl (.inl hW1), atI_nat hk, ?_⟩
  have hus1 := sp1 _ _ hus
  refine ⟨p1, wa, _, _, rfl, rfl, upd_same, hus1, by rw [cutV_take, List.length_take, sizeLine_eq]; omega, fun c1 nc1 => ?_⟩
  have sc1 := sameNew (o := .lst (cutV vs none (some (i : Int)) ++ us)) nc1
  refine ⟨_, rfl, _, rfl, _, _, rfl, rfl, ((i + 1 : Nat) : Int), rfl, F, vs, rfl, .inl (.inl (sc1 _ _ (sp1 _ _ hvs))), fun p2 np2 => ?_⟩
  have sp2 := sameNew (o := .lst (cutV vs (some ((i + 1 : Nat) : Int)) none)) np2
  refine ⟨c1, p2, _, _, rfl, rfl, sp2 _ _ upd_same, upd_same, by rw [cutV_take, cutV_drop, List.length_append, List.length_take, List.length_drop, sizeLine_eq]; omega, fun c2 nc2 => ?_⟩
  have sc2 := sameNew (o := .lst (cutV vs none (some (i : Int)) ++ us ++ cutV vs (some ((i + 1 : Nat) : Int)) none)) nc2
  have sA := ((sp1.trans sc1).trans sp2).trans sc2
  have q1 : Pcs H (cutV vs none (some (i : Int))) (ps.take i) := by rw [cutV_take]; exact Pcs.takeK pvs i
  have q2 : Pcs H (cutV vs (some ((i + 1 : Nat) : Int)) none) (ps.drop (i + 1)) := by rw [cutV_drop]; exact Pcs.dropK pvs (i + 1)
  exact q c2 qs _ sA (((sp1.trans sc1).trans sp2).free nc2) ⟨_, upd_same, ((q1.same sA).app (pus.same sA)).app (q2.same sA)⟩ way
end
end K04K

set_option Elab.async false
set_option linter.all false
set_option maxRecDepth 100000
set_option maxHeartbeats 8000000
set_option exponentiation.threshold 1000
namespace K04K
open K04 PySem PySem.Spec PyProof.Rows L2 CK SX KM
theorem pw_succ' (w : List Nat) (k : Nat) : WM.pw w (k + 1) = w ++ WM.pw w k := by
  unfold WM.pw
  rw [List.replicate_succ, List.flatten_cons]
theorem pw_one' (w : List Nat) : WM.pw w 1 = w := by
  unfold WM.pw
  simp
theorem pw_dbl (w : List Nat) : ∀ k, WM.pw (w ++ w) k = WM.pw w (2 * k)
  | 0 => rfl
  | k + 1 => by
    rw [pw_succ', pw_dbl w k, show 2 * (k + 1) = 2 * k + 1 + 1 by omega, pw_succ', pw_succ', List.append_assoc]
theorem pw_turn (z y : List Nat) : ∀ k, z ++ (WM.pw (y ++ z) k ++ y) = WM.pw (z ++ y) (k + 1)
  | 0 => by
    rw [pw_succ']
    show z ++ ([] ++ y) = z ++ y ++ []
    simp
  | k + 1 => by
    rw [pw_succ' (z ++ y), ← pw_turn z y k, pw_succ']
    simp only [List.append_assoc]
theorem low_app' {a b : List Nat} (ha : Low a) (hb : Low b) : Low (a ++ b) := fun c hc => (List.mem_append.mp hc).elim (ha c) (hb c)
theorem low_tk {a : List Nat} (ha : Low a) (k : Nat) : Low (a.take k) := fun c hc => ha c (List.mem_of_mem_take hc)
theorem low_dp {a : List Nat} (ha : Low a) (k : Nat) : Low (a.drop k) := fun c hc => ha c (List.mem_of_mem_drop hc)
theorem low_nil : Low [] := fun c hc => by cases hc
theorem way1 {p : Pc} (h : Low p.1) : Way p [(p.1 ++ p.1, p.2 / 2), (p.1, p.2 % 2)] := by
  refine ⟨?_, by simp, fun q hq => ?_, ?_, ?_⟩
  · rw [wr, wr, wr, List.append_nil, pw_dbl, ← WM.pw_add]
    congr 1
    show 2 * (p.2 / 2) + p.2 % 2 = p.2
    omega
  · rcases List.mem_cons.mp hq with e | e
    · rw [e]
      exact ⟨by show (p.1 ++ p.1).length ≤ _; rw [List.length_append]; omega, low_app' h h⟩
    · rw [List.mem_singleton.mp e]
      exact ⟨by show p.1.length ≤ _; omega, h⟩
  · show (p.1 ++ p.1).length + (p.1.length + 0) ≤ _
    rw [List.length_append]
    omega
  · show p.2 / 2 + (p.2 % 2 + 0) ≤ _
    omega
theorem way2 {p : Pc} (h : Low p.1) {j : Nat} (hj : j ≤ p.2) : Way p [(p.1, p.2 - j), ([], 3), (p.1, j)] := by
  refine ⟨?_, by simp, fun q hq => ?_, ?_, ?_⟩
  · rw [wr, wr, wr, wr, List.append_nil, pw_nil, List.nil_append, ← WM.pw_add]
    congr 1
    show p.2 - j + j = p.2
    omega
  · rcases List.mem_cons.mp hq with e | e
    · rw [e]
      exact ⟨by show p.1.length ≤ _; omega, h⟩
    · rcases List.mem_cons.mp e with e | e
      · rw [e]
        exact ⟨Nat.zero_le _, low_nil⟩
      · rw [List.mem_singleton.mp e]
        exact ⟨by show p.1.length ≤ _; omega, h⟩
  · show p.1.length + (0 + (p.1.length + 0)) ≤ _
    omega
  · show p.2 - j + (3 + (j + 0)) ≤ _
    omega
theorem way3 {p : Pc} (h : Low p.1) (b : Nat) (h0 : 0 < p.2) : Way p [(p.1.take b, 1), (p.1.drop b ++ p.1.take b, p.2 - 1), (p.1.drop b, 1)] := by
  have tl := List.length_take (i := b) (l := p.1)
  have dl := List.length_drop (i := b) (l := p.1)
  refine ⟨?_, by simp, fun q hq => ?_, ?_, ?_⟩
  · rw [wr, wr, wr, wr, List.append_nil]
    show WM.pw (p.1.take b) 1 ++ (WM.pw _ (p.2 - 1) ++ WM.pw (p.1.drop b) 1) = _
    rw [pw_one', pw_one', pw_turn, List.take_append_drop]
    congr 1
    omega
  · rcases List.mem_cons.mp hq with e | e
    · rw [e]
      exact ⟨by show (p.1.take b).length ≤ _; omega, low_tk h b⟩
    · rcases List.mem_cons.mp e with e | e
      · rw [e]
        exact ⟨by show (p.1.drop b ++ p.1.take b).length ≤ _; rw [List.length_append]; omega, low_app' (low_dp h b) (low_tk h b)⟩
      · rw [List.mem_singleton.mp e]
        exact ⟨by show (p.1.drop b).length ≤ _; omega, low_dp h b⟩
  · show (p.1.take b).length + ((p.1.drop b ++ p.1.take b).length + ((p.1.drop b).length + 0)) ≤ _
    rw [List.length_append]
    omega
  · show 1 + (p.2 - 1 + (1 + 0)) ≤ _
    omega
theorem way4 {p : Pc} (h : Low p.1) (b : Nat) (h0 : 0 < p.2) : Way p [(p.1, p.2 - 1), (p.1.take b, 1), (p.1.drop b, 1)] := by
  have tl := List.length_take (i := b) (l := p.1)
  have dl := List.length_drop (i := b) (l := p.1)
  refine ⟨?_, by simp, fun q hq => ?_, ?_, ?_⟩
  · rw [wr, wr, wr, wr, List.append_nil]
    show WM.pw p.1 (p.2 - 1) ++ (WM.pw (p.1.take b) 1 ++ WM.pw (p.1.drop b) 1) = _
    rw [pw_one', pw_one', List.take_append_drop]
    conv => lhs; rhs; rw [← pw_one' p.1]
    rw [← WM.pw_add]
    congr 1
    omega
  · rcases List.mem_cons.mp hq with e | e
    · rw [e]
      exact ⟨by show p.1.length ≤ _; omega, h⟩
    · rcases List.mem_cons.mp e with e | e
      · rw [e]
        exact ⟨by show (p.1.take b).length ≤ _; omega, low_tk h b⟩
      · rw [List.mem_singleton.mp e]
        exact ⟨by show (p.1.drop b).length ≤ _; omega, low_dp h b⟩
  · show p.1.length + ((p.1.take b).length + ((p.1.drop b).length + 0)) ≤ _
    omega
  · show p.2 - 1 + (1 + (1 + 0)) ≤ _
    omega
theorem way5 {p : Pc} (h : Low p.1) (b : Nat) (h0 : 0 < p.2) : Way p [([], 1), (p.1.take b, 1), (p.1.drop b, 1), (p.1, p.2 - 1)] := by
  have tl := List.length_take (i := b) (l := p.1)
  have dl := List.length_drop (i := b) (l := p.1)
  refine ⟨?_, by simp, fun q hq => ?_, ?_, ?_⟩
  · rw [wr, wr, wr, wr, wr, List.append_nil, pw_nil, List.nil_append]
    show WM.pw (p.1.take b) 1 ++ (WM.pw (p.1.drop b) 1 ++ WM.pw p.1 (p.2 - 1)) = _
    rw [pw_one', pw_one', ← List.append_assoc, List.take_append_drop, ← pw_succ']
    congr 1
    omega
  · rcases List.mem_cons.mp hq with e | e
    · rw [e]
      exact ⟨Nat.zero_le _, low_nil⟩
    · rcases List.mem_cons.mp e with e | e
      · rw [e]
        exact ⟨by show (p.1.take b).length ≤ _; omega, low_tk h b⟩
      · rcases List.mem_cons.mp e with e | e
        · rw [e]
          exact ⟨by show (p.1.drop b).length ≤ _; omega, low_dp h b⟩
        · rw [List.mem_singleton.mp e]
          exact ⟨by show p.1.length ≤ _; omega, h⟩
  · show 0 + ((p.1.take b).length + ((p.1.drop b).length + (p.1.length + 0))) ≤ _
    omega
  · show 1 + (1 + (1 + (p.2 - 1 + 0))) ≤ _
    omega
/-- the list of ways, as far as it is filled -/
structure WS (p : Pc) (W : Addr) (HW HX : Hp) (Ws : List Addr) : Prop where
  sx : SameX W HW HX
  at_ : HX W = some (.lst (Ws.map V.ref))
  all : ∀ a ∈ Ws, a ≠ W ∧ ∃ qs, PL HX a qs ∧ Way p qs
theorem WS.same {p : Pc} {W : Addr} {HW HX HX' : Hp} {Ws : List Addr} (h : WS p W HW HX Ws) (s : Same HX HX') : WS p W HW HX' Ws :=
  ⟨h.sx.trans (.of s), s _ _ h.at_, fun a ha => ⟨(h.all a ha).1, by obtain ⟨_, qs, pl, w⟩ := h.all a ha; exact ⟨qs, pl.same s, w⟩⟩⟩
theorem WS.put {p : Pc} {W y : Addr} {HW HX : Hp} {Ws : List Addr} {qs : List Pc} (h : WS p W HW HX Ws) (yn : y ≠ W) (pl : PL HX y qs) (w : Way p qs) : WS p W HW (upd HX W (.lst (Ws.map V.ref ++ [.ref y]))) (Ws ++ [y]) := by
  have key : ∀ {a : Addr} {rs : List Pc}, a ≠ W → PL HX a rs → PL (upd HX W (.lst (Ws.map V.ref ++ [.ref y]))) a rs := fun ne ⟨vs, e, pv⟩ => ⟨vs, by rw [upd_ne ne]; exact e, pv.upd h.at_⟩
  refine ⟨fun c o cW e => by rw [upd_ne cW]; exact h.sx _ _ cW e, by rw [upd_same, List.map_append]; rfl, fun a ha => ?_⟩
  rcases List.mem_append.mp ha with z | z
  · obtain ⟨ne, rs, pl', w'⟩ := h.all a z
    exact ⟨ne, rs, key ne pl', w'⟩
  · rw [List.mem_singleton.mp z]
    exact ⟨yn, qs, key yn pl, w⟩
section
variable {P : Program} {w : World} {K : PySem.W.Frag} {mg : Str → Option Value} {base : Heap} {C : Addr}
def sp_once : Sp := fun vs H Q _ => ∃ (g l : Addr) (ps : List Pc) (k m s t n : Nat), vs = [.ref g, .ref l] ∧ PL H l ps ∧ ps ≠ [] ∧ SB k m s t ps ∧ k ≤ 400 ∧ m ≤ 400 ∧ t < 2 ^ 190 ∧ Gn (n + 20) H g ∧
  ∀ r qs H', SameX g H H' → Gn n H' g → H r = none → PL H' r qs → SB (k + 3) (2 * m) (s + 2 * m) (t + 3) qs → wr qs = wr ps → Q (.ref r) H'
theorem cnt_mem {p : Pc} : ∀ {ps : List Pc}, p ∈ ps → p.2 ≤ cnts ps
  | q :: r, h => by
    have e : cnts (q :: r) = q.2 + cnts r := rfl
    rcases List.mem_cons.mp h with rfl | h
    · omega
    · have := cnt_mem h
      omega
theorem c_law_spelled_once (T : Txt K mg C) : C8.Cal P w K mg base 4 "_law_spelled_once" sp_once [] := by
  refine calF T.d_law_spelled_once sc_law_spelled_once (fun vs H Q E h => ?_) (fun f0 cdv A outer s0 H vs Q E hr h => ?_)
  · obtain ⟨_, _, _, _, _, _, _, _, rfl, _⟩ := h; rfl
  · obtain ⟨g, l, ps, k, m, s, t, n, rfl, pl, pne, sb, k4, m4, t4, G, q⟩ := h
    obtain ⟨u, hu, tail⟩ := once_tail T f0 cdv A outer s0 H E hr
    refine ⟨_, (pss_cons (ps_par (i := 2) (j := 3) (by rfl) sc_law_spelled_once.nd rfl rfl (by decide) rfl rfl (pa_cons (C8.pe_c (c_law_random T) hr (by decide) (by rfl) (pa_cons (pv 0) (pa_cons (pe_callB call_len_seq (by rfl) T.m_len (by decide +kernel) (pa_cons (pv 1) pa_nil)) pa_nil))) (pa_cons (pe_callTy call_list_of (by rfl) T.m_list (by decide +kernel) (pa_cons (pv 1) pa_nil)) pa_nil)) (by rfl))
    (pss_cons (ps_asg (pe_ix ix_list (pv 1) (pv 2) (fun _ _ => rfl)) (pg_two (K := K) (i := 4) (j := 5) rfl rfl sc_law_spelled_once.nd rfl rfl (Or.inl rfl) (Or.inl rfl)))
    (pss_cons (ps_par (i := 6) (j := 7) (by rfl) sc_law_spelled_once.nd rfl rfl (by decide) rfl rfl (pa_cons (C8.pe_c (c_law_random T) hr (by decide) (by rfl) (pa_cons (pv 0) (pa_cons pe_int pa_nil))) (pa_cons (C8.pe_c (c_law_random T) hr (by decide) (by rfl) (pa_cons (pv 0) (pa_cons (pe_op op_add (pe_callB call_len_str (by rfl) T.m_len (by decide +kernel) (pa_cons (pv 4) pa_nil)) pe_int) pa_nil))) pa_nil)) (by rfl))
    (pss_cons (ps_set (i := 8) sc_law_spelled_once.nd rfl (Or.inl rfl) (pe_callB (call_min2 rfl) (by rfl) T.m_min (by decide +kernel) (pa_cons (pv 5) (pa_cons (pe_op op_add pe_int (C8.pe_c (c_law_random T) hr (by decide) (by rfl) (pa_cons (pv 0) (pa_cons (pe_op op_add pe_int (pv 5)) pa_nil)))) pa_nil))))
    (pss_cons (ps_set (i := 9) sc_law_spelled_once.nd rfl (Or.inl rfl) (pe_lst (pa_cons (pe_lst (pa_cons (pe_tup (pa_cons (pe_op op_add_str (pv 4) (pv 4)) (pa_cons (pe_op op_fdivW (pv 5) pe_int) pa_nil))) (pa_cons (pe_tup (pa_cons (pv 4) (pa_cons (pe_op op_modN (pe_callTy call_int1 (by rfl) T.m_int (by decide +kernel) (pa_cons (pv 5) pa_nil)) pe_int) pa_nil))) pa_nil))) (pa_cons (pe_lst (pa_cons (pe_tup (pa_cons (pv 4) (pa_cons (pe_op op_sub (pv 5) (pv 8)) pa_nil))) (pa_cons (pe_tup (pa_cons pe_str (pa_cons pe_int pa_nil))) (pa_cons (pe_tup (pa_cons (pv 4) (pa_cons (pv 8) pa_nil))) pa_nil)))) pa_nil))))
    (pss_cons (ps_if (PW.pt (pw_and (pt_cmpR op_ne (pv 4) pe_str (nomark _)) (pw_and1 (pt_cmpR op_gt (pv 5) pe_int (nomark _)))))
    (pss_cons (ps_set (i := 10) sc_law_spelled_once.nd rfl (Or.inl rfl) (pe_op op_add_str (pe_slice C8.sl_txt (pv 4) (po_some (pv 7)) po_none) (pe_slice C8.sl_txt (pv 4) po_none (po_some (pv 7)))))
    (pss_cons (ps_expr (pe_bm PySem.F.plainAttrs_list PySem.F.slot_list_append PySem.F.type_list_append mt_append (pv 9) (pa_cons (pe_lst (pa_cons (pe_tup (pa_cons (pe_slice C8.sl_txt (pv 4) po_none (po_some (pv 7))) (pa_cons pe_int pa_nil))) (pa_cons (pe_tup (pa_cons (pv 10) (pa_cons (pe_op op_sub (pv 5) pe_int) pa_nil))) (pa_cons (pe_tup (pa_cons (pe_slice C8.sl_txt (pv 4) (po_some (pv 7)) po_none) (pa_cons pe_int pa_nil))) pa_nil)))) pa_nil)))
    (pss_cons (ps_expr (pe_bm PySem.F.plainAttrs_list PySem.F.slot_list_append PySem.F.type_list_append mt_append (pv 9) (pa_cons (pe_lst (pa_cons (pe_tup (pa_cons (pv 4) (pa_cons (pe_op op_sub (pv 5) pe_int) pa_nil))) (pa_cons (pe_tup (pa_cons (pe_slice C8.sl_txt (pv 4) po_none (po_some (pv 7))) (pa_cons pe_int pa_nil))) (pa_cons (pe_tup (pa_cons (pe_slice C8.sl_txt (pv 4) (po_some (pv 7)) po_none) (pa_cons pe_int pa_nil))) pa_nil)))) pa_nil)))
    (pss_one (ps_expr (pe_bm PySem.F.plainAttrs_list PySem.F.slot_list_append PySem.F.type_list_append mt_append (pv 9) (pa_cons (pe_lst (pa_cons (pe_tup (pa_cons (pe_slice C8.sl_txt (pv 10) po_none (po_some pe_int)) (pa_cons pe_int pa_nil))) (pa_cons (pe_tup (pa_cons (pe_slice C8.sl_txt (pv 4) po_none (po_some (pv 7))) (pa_cons pe_int pa_nil))) (pa_cons (pe_tup (pa_cons (pe_slice C8.sl_txt (pv 4) (po_some (pv 7)) po_none) (pa_cons pe_int pa_nil))) (pa_cons (pe_tup (pa_cons (pv 4) (pa_cons (pe_op op_sub (pv 5) pe_int) pa_nil))) pa_nil))))) pa_nil)))))))
    pss_nil)
    hu)))))), ?_⟩
    obtain ⟨vs, hl, pvs⟩ := id pl
    have lv := pvs.len
    have l0 := List.length_pos_iff.mpr pne
    have lk := sb.len
    refine ⟨_, rfl, _, rfl, l, vs, rfl, .inl (.inl (.inl hl)), g, _, n + 19, rfl, G, by omega, by omega, fun r H1 s1 G1 r0 r1 => ?_⟩
    obtain ⟨i, rfl⟩ : ∃ i : Nat, r = i := ⟨r.toNat, by omega⟩
    have pl1 := pl.sameX G s1
    have lg := pl.ne G
    have hl1 := s1 _ _ lg hl
    refine ⟨_, rfl, l, _, rfl, .inl (.inl (.inl hl1)), fun F nF => ⟨_, _, rfl, ?_⟩⟩
    have sF := sameNew (o := .lst vs) nF
    have ii : i < ps.length := by omega
    have hp := List.getElem?_eq_getElem ii
    generalize ps[i] = p at hp
    have mp := List.mem_of_getElem? hp
    obtain ⟨wp, lowp⟩ := sb.word p mp
    have cp := cnt_mem mp
    have ct := sb.cnt
    have pv1 := pvs.mono fun a xs e => s1.tup G e
    obtain ⟨a, hva, ha⟩ := pv1.at hp
    have G2 := G1.same sF
    have pF : PL (upd H1 F (.lst vs)) F ps := ⟨vs, upd_same, pv1.same sF⟩
    have Fg := G1.ne nF
    refine ⟨_, rfl, _, rfl, l, vs, (i : Int), .ref a, rfl, rfl, .inl (.inl (sF _ _ hl1)), atI_nat (j := i) hva, a, _, rfl, .inl (.inl (sF _ _ ha)), rfl, _, _, rfl, _, _, rfl, rfl, ?_⟩
    have s02 := s1.trans (.of sF)
    generalize upd H1 F (.lst vs) = H2 at *
    refine ⟨_, rfl, g, 5, n + 18, rfl, G2, by decide, by decide, fun rk H3 s3 G3 k0 k1 => ?_⟩
    obtain ⟨kd, rfl⟩ : ∃ i : Nat, rk = i := ⟨rk.toNat, by omega⟩
    refine ⟨_, rfl, _, rfl, S p.1, rfl, len_line (by omega), _, _, rfl, rfl, g, _, n + 17, rfl, G3, by rw [S_len]; omega, by rw [S_len]; omega, fun rb H4 s4 G4 b0 b1 => ⟨_, _, rfl, ?_⟩⟩
    rw [S_len] at b1
    obtain ⟨b, rfl⟩ : ∃ i : Nat, rb = i := ⟨rb.toNat, by omega⟩
    refine ⟨_, rfl, _, rfl, _, rfl, _, _, rfl, rfl, g, _, n + 16, rfl, G4, by omega, by omega, fun rl H5 s5 G5 c0 c1 => ⟨_, _, rfl, rfl, _, _, rfl, ?_⟩⟩
    obtain ⟨less, hls, lle⟩ : ∃ j : Nat, (if 1 + rl < (p.2 : Int) then 1 + rl else (p.2 : Int)) = (j : Nat) ∧ j ≤ p.2 := by
      by_cases z : 1 + rl < (p.2 : Int)
      · exact ⟨(1 + rl).toNat, by rw [if_pos z]; omega, by omega⟩
      · exact ⟨p.2, by rw [if_neg z], Nat.le_refl _⟩
    dsimp only
    rw [hls]
    have c2 : p.2 < 2 ^ 195 := by omega
    have G5 := G5
    have s25 := s3.trans (s4.trans s5)
    have s05 := s02.trans s25
    have pF5 := pF.sameX G2 s25
    clear s3 s4 s5 G3 G4
    have lw : (S p.1).length + (S p.1).length ≤ sizeLine := by rw [S_len, sizeLine_eq]; omega
    refine ⟨_, rfl, _, rfl, _, _, rfl, rfl, lw, _, rfl, _, _, rfl, rfl, wide_div (b := 200) (by omega) (by omega) (by decide) (by decide), by show 2 ≤ sizeLine; decide, fun a1 n1 => ?_⟩
    have s1 := sameNew (o := .tup [.str (S p.1 ++ S p.1), .int ((p.2 : Int) / 2)]) n1
    refine ⟨_, rfl, _, rfl, .inl ⟨_, rfl, _, _, rfl, rfl, (by omega : (2 : Int) ≠ 0), by show 2 ≤ sizeLine; decide, fun a2 n2 => ⟨by show 2 ≤ sizeLine; decide, fun w1 nw1 => ?_⟩⟩⟩
    have ed : (p.2 : Int) / 2 = ((p.2 / 2 : Nat) : Int) := by omega
    have em : Int.fmod (p.2 : Int) 2 = ((p.2 % 2 : Nat) : Int) := by rw [Int.fmod_eq_emod_of_nonneg _ (by omega)]; rfl
    dsimp only at s1 n1 n2 nw1 ⊢
    rw [S_cat, ed] at s1 n2 nw1 ⊢
    rw [em] at nw1 ⊢
    have s2 := sameNew (o := .tup [.str (S p.1), .int (p.2 % 2 : Nat)]) n2
    have s3 := sameNew (o := .lst [.ref a1, .ref a2]) nw1
    refine ⟨_, rfl, _, rfl, _, rfl, _, _, rfl, rfl, by show 2 ≤ sizeLine; decide, fun b1' nb1 => ⟨by show 2 ≤ sizeLine; decide, fun b2 nb2 => ⟨_, rfl, _, rfl, by show 2 ≤ sizeLine; decide, fun b3 nb3 => ⟨by show 3 ≤ sizeLine; decide, fun w2 nw2 => ⟨by show 2 ≤ sizeLine; decide, fun W nW => ?_⟩⟩⟩⟩⟩
    have el : (p.2 : Int) - (less : Int) = ((p.2 - less : Nat) : Int) := by omega
    dsimp only at nb1 nb2 nb3 nw2 nW ⊢
    rw [el] at nb2 nb3 nw2 nW ⊢
    have s4 := sameNew (o := .tup [.str (S p.1), .int (p.2 - less : Nat)]) nb1
    have s5 := sameNew (o := .tup [.str (Str.ofString ""), .int 3]) nb2
    have s6 := sameNew (o := .tup [.str (S p.1), .int (less : Nat)]) nb3
    have s7 := sameNew (o := .lst [.ref b1', .ref b2, .ref b3]) nw2
    have s8 := sameNew (o := .lst [.ref w1, .ref w2]) nW
    have s38 := s4.trans (s5.trans (s6.trans (s7.trans s8)))
    have es : (Str.ofString "" : Str) = S [] := by decide +kernel
    rw [es] at s5 nb3 nw2 nW s38 s6 s7 s8 ⊢
    have W1 : PL _ w1 [(p.1 ++ p.1, p.2 / 2), (p.1, p.2 % 2)] := ⟨_, s38 _ _ upd_same, .cons ((s2.trans (s3.trans s38)) _ _ upd_same) (.cons ((s3.trans s38) _ _ upd_same) .nil)⟩
    have W2 : PL _ w2 [(p.1, p.2 - less), ([], 3), (p.1, less)] := ⟨_, s8 _ _ upd_same, .cons ((s5.trans (s6.trans (s7.trans s8))) _ _ upd_same) (.cons ((s6.trans (s7.trans s8)) _ _ upd_same) (.cons ((s7.trans s8) _ _ upd_same) .nil))⟩
    have sAll := s1.trans (s2.trans (s3.trans s38))
    have hWw := upd_same (H := upd (upd (upd (upd (upd (upd (upd H5 a1 (.tup [.str (S (p.1 ++ p.1)), .int (p.2 / 2 : Nat)])) a2 (.tup [.str (S p.1), .int (p.2 % 2 : Nat)])) w1 (.lst [.ref a1, .ref a2])) b1' (.tup [.str (S p.1), .int (p.2 - less : Nat)])) b2 (.tup [.str (S []), .int 3])) b3 (.tup [.str (S p.1), .int (less : Nat)])) w2 (.lst [.ref b1', .ref b2, .ref b3])) (a := W) (o := .lst [.ref w1, .ref w2])
    have W5 : H5 W = none := (s1.trans (s2.trans (s3.trans (s4.trans (s5.trans (s6.trans s7)))))).free nW
    have e1 := (s4.trans (s5.trans (s6.trans s7))) w1 _ upd_same
    have ne1 : w1 ≠ W := fun z => by
      rw [← z, e1] at nW
      cases nW
    have ne2 : w2 ≠ W := fun z => by
      rw [← z, upd_same] at nW
      cases nW
    clear e1
    clear nW nw2 nb3 nb2 nb1 nw1 n2 n1
    generalize upd (upd (upd (upd (upd (upd (upd (upd H5 a1 (.tup [.str (S (p.1 ++ p.1)), .int (p.2 / 2 : Nat)])) a2 (.tup [.str (S p.1), .int (p.2 % 2 : Nat)])) w1 (.lst [.ref a1, .ref a2])) b1' (.tup [.str (S p.1), .int (p.2 - less : Nat)])) b2 (.tup [.str (S []), .int 3])) b3 (.tup [.str (S p.1), .int (less : Nat)])) w2 (.lst [.ref b1', .ref b2, .ref b3])) W (.lst [.ref w1, .ref w2]) = HW at *
    clear s1 s2 s3 s4 s5 s6 s7 s8 s38
    have GW := G5.same sAll
    have Wg : W ≠ g := G5.ne W5
    have pFW := pF5.same sAll
    have FW : F ≠ W := fun z => by
      obtain ⟨us, hus, _⟩ := pF5
      rw [z, W5] at hus
      cases hus
    have fin : ∀ (HX : Hp) (y10 : Option V) (Ws : List Addr), SameX W HW HX → HX W = some (.lst (Ws.map V.ref)) → 1 ≤ Ws.length → Ws.length ≤ 10 → (∀ a ∈ Ws, ∃ qs, PL HX a qs ∧ Way p qs) →
        u { nx := fun _ H' => Q .non H', rt := Q } [some (.ref g), some (.ref l), some (.int (i : Nat)), some (.ref F), some (.str (S p.1)), some (.int (p.2 : Nat)), some (.int (kd : Nat)), some (.int (b : Nat)), some (.int (less : Nat)), some (.ref W), y10] HX := fun HX y10 Ws sx hX l1 l10 hq => by
      have pFX : PL HX F ps := by
        obtain ⟨us, hus, pus⟩ := pFW
        refine ⟨us, sx _ _ FW hus, pus.mono fun a xs e => sx _ _ (fun z => ?_) e⟩
        rw [z, hWw] at e
        cases e
      refine tail _ HX _ _ _ _ _ _ _ F W ps p i kd Ws pFX (by omega) hp hX l1 l10 hq fun r qs H' s' fr pl' way => ?_
      obtain ⟨sb', wr'⟩ := sb.step hp way
      have GX : Gn (n + 16) HX g := by
        obtain ⟨x1, x2, x3, e, rest⟩ := GW
        exact ⟨x1, x2, x3, sx _ _ (Ne.symm Wg) e, rest⟩
      have keep : ∀ c o, c ≠ g → H c = some o → HX c = some o := fun c o cg e => by
        have e5 := s05 _ _ cg e
        exact sx _ _ (fun z => by rw [z, W5] at e5; cases e5) (sAll _ _ e5)
      refine q r _ H' (fun c o cg e => s' _ _ (keep c o cg e)) ((GX.same s').le (by omega)) ?_ pl' sb' wr'
      cases e : H r with
      | none => rfl
      | some o =>
        by_cases rg : r = g
        · obtain ⟨x1, x2, x3, e', _⟩ := GX
          rw [rg, e'] at fr
          cases fr
        · rw [keep r o rg e] at fr
          cases fr
    have two : ∀ a ∈ [w1, w2], ∃ qs, PL HW a qs ∧ Way p qs := fun a ha => by
      rcases List.mem_cons.mp ha with e | e
      · rw [e]; exact ⟨_, W1, way1 lowp⟩
      · rw [List.mem_singleton.mp e]; exact ⟨_, W2, way2 lowp lle⟩
    have ws2 : WS p W HW HW [w1, w2] := ⟨.refl _ _, hWw, fun a ha => ⟨by
      rcases List.mem_cons.mp ha with e | e
      · rw [e]; exact ne1
      · rw [List.mem_singleton.mp e]; exact ne2, two a ha⟩⟩
    refine ⟨_, rfl, rfl, _, rfl, ite2 (fun e => ?_) (fun e => ?_)⟩
    · refine ⟨_, rfl, _, _, rfl, rfl, _, rfl, ite2 (fun e2 => ?_) (fun e2 => ?_)⟩
      · have t0 : 0 < p.2 := by
          have := of_decide_eq_true e2
          omega
        have f1 : Txt.slice (S p.1) none (some (b : Int)) = S (p.1.take b) := by rw [SX.slice_to (by omega), Int.toNat_natCast]
        have f2 : Txt.slice (S p.1) (some (b : Int)) none = S (p.1.drop b) := by rw [SX.slice_from (by omega), Int.toNat_natCast]
        have em1 : (p.2 : Int) - 1 = ((p.2 - 1 : Nat) : Int) := by omega
        have tl := List.length_take (i := b) (l := p.1)
        have dl := List.length_drop (i := b) (l := p.1)
        refine ⟨_, rfl, _, rfl, (b : Int), rfl, S p.1, rfl, len_line (by omega), _, rfl, _, rfl, (b : Int), rfl, S p.1, rfl, len_line (by omega), ?_⟩
        rw [f1, f2]
        refine ⟨_, _, rfl, rfl, by rw [S_len, S_len, sizeLine_eq]; omega, ?_⟩
        rw [S_cat]
        -- the first one
        refine ⟨_, rfl, .inl ⟨rfl, _, .inl (.inl hWw)⟩, _, rfl, _, rfl, (b : Int), rfl, S p.1, rfl, len_line (by omega), by show 2 ≤ sizeLine; decide, fun c1' nc1 => ⟨_, rfl, _, rfl, _, _, rfl, rfl, by show 2 ≤ sizeLine; decide, fun c2' nc2 => ⟨_, rfl, _, rfl, (b : Int), rfl, S p.1, rfl, len_line (by omega), by show 2 ≤ sizeLine; decide, fun c3' nc3 => ⟨by show 3 ≤ sizeLine; decide, fun x1 nx1 => ?_⟩⟩⟩⟩
        dsimp only at nc1 nc2 nc3 nx1 ⊢
        rw [f1] at nc2 nc3 nx1 ⊢
        rw [em1] at nc3 nx1 ⊢
        rw [f2] at nx1 ⊢
        have u1 := sameNew (o := .tup [.str (S (p.1.take b)), .int 1]) nc1
        have u2 := sameNew (o := .tup [.str (S (p.1.drop b ++ p.1.take b)), .int (p.2 - 1 : Nat)]) nc2
        have u3 := sameNew (o := .tup [.str (S (p.1.drop b)), .int 1]) nc3
        have u4 := sameNew (o := .lst [.ref c1', .ref c2', .ref c3']) nx1
        have X1 : PL _ x1 [(p.1.take b, 1), (p.1.drop b ++ p.1.take b, p.2 - 1), (p.1.drop b, 1)] := ⟨_, upd_same, .cons ((u2.trans (u3.trans u4)) _ _ upd_same) (.cons ((u3.trans u4) _ _ upd_same) (.cons (u4 _ _ upd_same) .nil))⟩
        have uA := u1.trans (u2.trans (u3.trans u4))
        have nX1 : x1 ≠ W := fun z => by
          have := (u1.trans (u2.trans u3)) _ _ hWw
          rw [← z, nx1] at this
          cases this
        refine ⟨W, _, _, rfl, rfl, uA _ _ hWw, by show 3 ≤ sizeLine; decide, ?_⟩
        have mk3 : ∀ HY, WS p W HW HY [w1, w2] → PL HY x1 _ → WS p W HW (upd HY W (.lst ([.ref w1, .ref w2] ++ [.ref x1]))) [w1, w2, x1] := fun HY z1 z2 => z1.put nX1 z2 (way3 lowp b t0)
        have ws3 := mk3 _ (ws2.same uA) X1
        clear X1 uA u1 u2 u3 u4 nX1 nx1 nc1 nc2 nc3 ws2 hWw W1 W2 two mk3
        generalize hE3 : upd _ W (.lst ([.ref w1, .ref w2] ++ [.ref x1])) = H3 at ws3 ⊢
        clear hE3
        have hW3 : H3 W = some (.lst [.ref w1, .ref w2, .ref x1]) := ws3.at_
        -- the second one
        refine ⟨_, rfl, .inl ⟨rfl, _, .inl (.inl hW3)⟩, _, rfl, _, rfl, _, _, rfl, rfl, by show 2 ≤ sizeLine; decide, fun c1' nc1 => ⟨_, rfl, _, rfl, (b : Int), rfl, S p.1, rfl, len_line (by omega), by show 2 ≤ sizeLine; decide, fun c2' nc2 => ⟨_, rfl, _, rfl, (b : Int), rfl, S p.1, rfl, len_line (by omega), by show 2 ≤ sizeLine; decide, fun c3' nc3 => ⟨by show 3 ≤ sizeLine; decide, fun x2 nx2 => ?_⟩⟩⟩⟩
        dsimp only at nc1 nc2 nc3 nx2 ⊢
        rw [em1] at nc2 nc3 nx2 ⊢
        rw [f1] at nc3 nx2 ⊢
        rw [f2] at nx2 ⊢
        have u1 := sameNew (o := .tup [.str (S p.1), .int (p.2 - 1 : Nat)]) nc1
        have u2 := sameNew (o := .tup [.str (S (p.1.take b)), .int 1]) nc2
        have u3 := sameNew (o := .tup [.str (S (p.1.drop b)), .int 1]) nc3
        have u4 := sameNew (o := .lst [.ref c1', .ref c2', .ref c3']) nx2
        have X2 : PL _ x2 [(p.1, p.2 - 1), (p.1.take b, 1), (p.1.drop b, 1)] := ⟨_, upd_same, .cons ((u2.trans (u3.trans u4)) _ _ upd_same) (.cons ((u3.trans u4) _ _ upd_same) (.cons (u4 _ _ upd_same) .nil))⟩
        have uA := u1.trans (u2.trans (u3.trans u4))
        have nX2 : x2 ≠ W := fun z => by
          have := (u1.trans (u2.trans u3)) _ _ hW3
          rw [← z, nx2] at this
          cases this
        refine ⟨W, _, _, rfl, rfl, uA _ _ hW3, by show 4 ≤ sizeLine; decide, ?_⟩
        have mk4 : ∀ HY, WS p W HW HY [w1, w2, x1] → PL HY x2 _ → WS p W HW (upd HY W (.lst ([.ref w1, .ref w2, .ref x1] ++ [.ref x2]))) [w1, w2, x1, x2] := fun HY z1 z2 => z1.put nX2 z2 (way4 lowp b t0)
        have ws4 := mk4 _ (ws3.same uA) X2
        clear X2 uA u1 u2 u3 u4 nX2 nx2 nc1 nc2 nc3 ws3 hW3 mk4
        generalize hE4 : upd _ W (.lst ([.ref w1, .ref w2, .ref x1] ++ [.ref x2])) = H4' at ws4 ⊢
        clear hE4
        have hW4 : H4' W = some (.lst [.ref w1, .ref w2, .ref x1, .ref x2]) := ws4.at_
        -- the third one
        have f0' : Txt.slice (S (p.1.drop b ++ p.1.take b)) none (some (0 : Int)) = S [] := by
          rw [SX.slice_to (by omega)]
          rfl
        refine ⟨_, rfl, .inl ⟨rfl, _, .inl (.inl hW4)⟩, _, rfl, 0, rfl, S (p.1.drop b ++ p.1.take b), rfl, len_line (by rw [List.length_append]; omega), by show 2 ≤ sizeLine; decide, fun c1' nc1 => ⟨_, rfl, _, rfl, (b : Int), rfl, S p.1, rfl, len_line (by omega), by show 2 ≤ sizeLine; decide, fun c2' nc2 => ⟨_, rfl, _, rfl, (b : Int), rfl, S p.1, rfl, len_line (by omega), by show 2 ≤ sizeLine; decide, fun c3' nc3 => ⟨_, rfl, _, rfl, _, _, rfl, rfl, by show 2 ≤ sizeLine; decide, fun c4' nc4 => ⟨by show 4 ≤ sizeLine; decide, fun x3 nx3 => ?_⟩⟩⟩⟩⟩
        dsimp only at nc1 nc2 nc3 nc4 nx3 ⊢
        rw [f0'] at nc2 nc3 nc4 nx3 ⊢
        rw [f1] at nc3 nc4 nx3 ⊢
        rw [f2] at nc4 nx3 ⊢
        rw [em1] at nx3 ⊢
        have u1 := sameNew (o := .tup [.str (S []), .int 1]) nc1
        have u2 := sameNew (o := .tup [.str (S (p.1.take b)), .int 1]) nc2
        have u3 := sameNew (o := .tup [.str (S (p.1.drop b)), .int 1]) nc3
        have u4 := sameNew (o := .tup [.str (S p.1), .int (p.2 - 1 : Nat)]) nc4
        have u5 := sameNew (o := .lst [.ref c1', .ref c2', .ref c3', .ref c4']) nx3
        have X3 : PL _ x3 [([], 1), (p.1.take b, 1), (p.1.drop b, 1), (p.1, p.2 - 1)] := ⟨_, upd_same, .cons ((u2.trans (u3.trans (u4.trans u5))) _ _ upd_same) (.cons ((u3.trans (u4.trans u5)) _ _ upd_same) (.cons ((u4.trans u5) _ _ upd_same) (.cons (u5 _ _ upd_same) .nil)))⟩
        have uA := u1.trans (u2.trans (u3.trans (u4.trans u5)))
        have nX3 : x3 ≠ W := fun z => by
          have := (u1.trans (u2.trans (u3.trans u4))) _ _ hW4
          rw [← z, nx3] at this
          cases this
        refine ⟨W, _, _, rfl, rfl, uA _ _ hW4, by show 5 ≤ sizeLine; decide, ?_⟩
        have mk5 : ∀ HY, WS p W HW HY [w1, w2, x1, x2] → PL HY x3 _ → WS p W HW (upd HY W (.lst ([.ref w1, .ref w2, .ref x1, .ref x2] ++ [.ref x3]))) [w1, w2, x1, x2, x3] := fun HY z1 z2 => z1.put nX3 z2 (way5 lowp b t0)
        have ws5 := mk5 _ (ws4.same uA) X3
        clear X3 uA u1 u2 u3 u4 u5 nX3 nx3 nc1 nc2 nc3 nc4 ws4 hW4 mk5
        generalize hE5 : upd _ W (.lst ([.ref w1, .ref w2, .ref x1, .ref x2] ++ [.ref x3])) = H5' at ws5 ⊢
        clear hE5
        exact fin H5' _ [w1, w2, x1, x2, x3] ws5.sx ws5.at_ (by simp) (by simp) fun a ha => (ws5.all a ha).2
      · exact fin HW none [w1, w2] (.refl _ _) hWw (by simp) (by simp) two
    · exact fin HW none [w1, w2] (.refl _ _) hWw (by simp) (by simp) two
end
end K04K

set_option Elab.async false
set_option linter.all false
set_option maxRecDepth 100000
set_option maxHeartbeats 8000000
set_option exponentiation.threshold 1000
namespace K04K
open K04 PySem PySem.Spec PyProof.Rows L2 CK SX KM
theorem SB.le {k m s t k' m' s' t' : Nat} {ps : List Pc} (h : SB k m s t ps) (h1 : k ≤ k') (h2 : m ≤ m') (h3 : s ≤ s') (h4 : t ≤ t') : SB k' m' s' t' ps :=
  ⟨Nat.le_trans h.len h1, fun p hp => ⟨Nat.le_trans (h.word p hp).1 h2, (h.word p hp).2⟩, Nat.le_trans h.lets h3, Nat.le_trans h.cnt h4⟩
theorem freeX {g r : Addr} {H H' : Hp} {n : Nat} (s : SameX g H H') (G : Gn n H' g) (fr : H' r = none) : H r = none := by
  cases e : H r with
  | none => rfl
  | some o =>
    by_cases rg : r = g
    · obtain ⟨x1, x2, x3, e', _⟩ := G
      rw [rg, e'] at fr
      cases fr
    · rw [s _ _ rg e] at fr
      cases fr
section
variable {P : Program} {w : World} {K : PySem.W.Frag} {mg : Str → Option Value} {base : Heap} {C : Addr}
def sp_spelled : Sp := fun vs H Q _ => ∃ (g l : Addr) (ps : List Pc) (k m s t n : Nat), vs = [.ref g, .ref l] ∧ PL H l ps ∧ SB k m s t ps ∧ k ≤ 300 ∧ m ≤ 12 ∧ t < 2 ^ 180 ∧ Gn (n + 200) H g ∧
  ∀ r qs H', SameX g H H' → Gn n H' g → H r = none → PL H' r qs → SB (k + 15) (32 * m) (s + 62 * m) (t + 15) qs → wr qs = wr ps → Q (.ref r) H'
/-- what i turns may make of the bounds -/
def tw (i : Nat) : Nat := 2 ^ i
theorem c_law_spelled (T : Txt K mg C) : C8.Cal P w K mg base 5 "_law_spelled" sp_spelled [] := by
  refine calF T.d_law_spelled sc_law_spelled (fun vs H Q E h => ?_) (fun f0 cdv A outer s0 H vs Q E hr h => ?_)
  · obtain ⟨_, _, _, _, _, _, _, _, rfl, _⟩ := h; rfl
  · obtain ⟨g, l, ps, k, m, s, t, n, rfl, pl, sb, k4, m4, t4, G, q⟩ := h
    refine ⟨_, (pss_cons (ps_set (i := 2) sc_law_spelled.nd rfl (Or.inl rfl) (pe_callTy call_list_of (by rfl) T.m_list (by decide +kernel) (pa_cons (pv 1) pa_nil)))
    (pss_cons (ps_for PassesOwn.never rfl (pi_range1 (by rfl) T.m_range (pa_cons (pe_op op_add pe_int (C8.pe_c (c_law_random T) hr (by decide) (by rfl) (pa_cons (pv 0) (pa_cons pe_int pa_nil)))) pa_nil)) (pg_name (i := 3) sc_law_spelled.nd rfl (Or.inl rfl))
    (pss_one (ps_if (pt_cmpR (op_nePc hr.units) (pv 2) (pe_lst pa_nil) (nomark _))
    (pss_one (ps_set (i := 2) sc_law_spelled.nd rfl (Or.inl rfl) (C8.pe_c (c_law_spelled_once T) hr (by decide) (by rfl) (pa_cons (pv 0) (pa_cons (pv 2) pa_nil)))))
    pss_nil)))
    (pss_one (ps_ret (pv 2))))), ?_⟩
    obtain ⟨vs, hl, pvs⟩ := id pl
    refine ⟨_, rfl, l, _, rfl, .inl (.inl (.inl hl)), fun F nF => ?_⟩
    have sF := sameNew (o := .lst vs) nF
    have pF : PL (upd H F (.lst vs)) F ps := ⟨vs, upd_same, pvs.same sF⟩
    have Fg := G.ne nF
    refine ⟨_, rfl, g, 5, n + 190, rfl, (G.same sF).le (by omega), by decide, by decide, fun r H2 s2 G2 r0 r1 => ⟨_, _, rfl, rfl, _, rfl, by omega, by omega, ?_⟩⟩
    have pF2 := pF.sameX (G.same sF) s2
    have s02 := (SameX.of sF).trans s2
    refine for_it walk_range (fun i σ H3 => ∃ (r : Addr) (qs : List Pc) (y3 : Option V), σ = [some (.ref g), some (.ref l), some (.ref r), y3] ∧ SameX g H H3 ∧ Gn (n + 30 * (6 - i)) H3 g ∧ H r = none ∧ PL H3 r qs ∧ SB (k + 3 * i) (2 ^ i * m) (s + (2 * 2 ^ i - 2) * m) (t + 3 * i) qs ∧ wr qs = wr ps)
      ⟨F, ps, none, rfl, s02, G2.le (by omega), nF, pF2, sb.le (by omega) (by omega) (by omega) (by omega), rfl⟩ (fun _ _ _ _ _ => True.intro) (fun i v σ H3 H4 hi p yy => ?_) fun σ H3 p => ?_
    · obtain ⟨r', qs, y3, rfl, s3, G3, fr, pq, sq, ew⟩ := p
      obtain ⟨rfl, rfl⟩ := yy
      have i5 : i < 5 := by omega
      have p2 : 2 ^ i ≤ 16 := Nat.le_trans (Nat.pow_le_pow_right (by decide) (show i ≤ 4 by omega)) (by decide)
      have p2' : 1 ≤ 2 ^ i := Nat.one_le_two_pow
      have ps2 : 2 ^ (i + 1) = 2 ^ i * 2 := Nat.pow_succ 2 i
      have mm : 2 ^ i * m ≤ 16 * 12 := Nat.mul_le_mul p2 m4
      have low := fun p hp => (sq.word p hp).2
      have up : ∀ {k' m' s' t' : Nat} {rs : List Pc}, SB k' m' s' t' rs → k' ≤ k + 3 * i + 3 → m' ≤ 2 * (2 ^ i * m) → s' ≤ s + (2 * 2 ^ i - 2) * m + 2 * (2 ^ i * m) → t' ≤ t + 3 * i + 3 → SB (k + 3 * (i + 1)) (2 ^ (i + 1) * m) (s + (2 * 2 ^ (i + 1) - 2) * m) (t + 3 * (i + 1)) rs := fun h a1 a2 a3 a4 => by
        have e1 : 2 ^ (i + 1) * m = 2 * (2 ^ i * m) := by rw [ps2, Nat.mul_comm (2 ^ i) 2, Nat.mul_assoc]
        have e2 : (2 * 2 ^ (i + 1) - 2) * m = (2 * 2 ^ i - 2) * m + 2 * (2 ^ i * m) := by
          rw [ps2, show 2 * (2 ^ i * 2) - 2 = (2 * 2 ^ i - 2) + 2 * 2 ^ i by omega, Nat.add_mul, Nat.mul_assoc 2]
        refine h.le (by omega) (by rw [e1]; exact a2) (by rw [e2]; omega) (by omega)
      refine ⟨_, rfl, by show 0 ≤ sizeLine; omega, fun M nM => ?_⟩
      have sM := sameNew (o := .lst []) nM
      refine ⟨r', M, qs, rfl, rfl, pq.same sM, low, upd_same, _, rfl, ?_⟩
      cases qs with
      | nil =>
        refine iteF ?_
        exact ⟨r', [], _, rfl, s3.trans (.of sM), (G3.same sM).le (by omega), fr, pq.same sM, up sq (by omega) (by omega) (by omega) (by omega), ew⟩
      | cons p0 rest =>
        refine iteT ?_
        refine ⟨_, rfl, _, rfl, g, r', p0 :: rest, _, _, _, _, n + 30 * (6 - (i + 1)), rfl, pq.same sM, by simp, sq, by omega, by omega, Nat.lt_of_le_of_lt (show t + 3 * i ≤ 2 ^ 180 + 15 by omega) (by decide), (G3.same sM).le (by omega), fun r2 qs2 H5 s5 G5 fr2 pq2 sq2 ew2 => ?_⟩
        refine ⟨r2, qs2, _, rfl, s3.trans ((SameX.of sM).trans s5), G5, ?_, pq2, up sq2 (Nat.le_refl _) (Nat.le_refl _) (Nat.le_refl _) (Nat.le_refl _), ew2.trans ew⟩
        exact freeX (s3.trans (.of sM)) (G3.same sM) fr2
    · obtain ⟨r', qs, y3, rfl, s3, G3, fr, pq, sq, ew⟩ := p
      refine ⟨_, rfl, ?_⟩
      have j5 : (1 + r - 0).toNat ≤ 5 := by omega
      first
        | (have e0 : (1 + r).toNat ≤ 5 := by omega
           generalize (1 + r).toNat = j at *
           have p5 : 2 ^ j ≤ 32 := Nat.le_trans (Nat.pow_le_pow_right (by decide) e0) (by decide)
           exact q r' qs H3 s3 (G3.le (by omega)) fr pq (sq.le (by omega) (Nat.mul_le_mul_right _ p5) (Nat.add_le_add_left (Nat.mul_le_mul_right _ (by omega)) _) (by omega)) ew)
end
end K04K

set_option Elab.async false
set_option linter.all false
set_option maxRecDepth 100000
set_option maxHeartbeats 8000000
set_option exponentiation.threshold 1000
namespace K04K
open K04 PySem PySem.Spec PyProof.Rows L2 CK SX KM
theorem get_int {xs : List Int} {i : Nat} {v : V} (h : (xs.map V.int)[i]? = some v) : ∃ z, z ∈ xs ∧ xs[i]? = some z ∧ v = .int z := by
  rw [List.getElem?_map] at h
  cases e : xs[i]? with
  | none => rw [e] at h; cases h
  | some z =>
    rw [e] at h
    exact ⟨z, List.mem_of_getElem? e, rfl, (Option.some.inj h).symm⟩
theorem small5 {n : Nat} (h : n ≤ 5) : n < sizeLine := small1000 (by omega)
/-- a list of places -/
def NL (H : Hp) (a : Addr) (ks : List Nat) : Prop := H a = some (.lst (ks.map fun k => V.int (k : Nat)))
theorem NL.same {H H' : Hp} {a : Addr} {ks : List Nat} (h : NL H a ks) (s : Same H H') : NL H' a ks := s _ _ h
theorem nats_of : ∀ {ns : List Int}, (∀ z ∈ ns, 0 ≤ z) → ns.map V.int = (ns.map Int.toNat).map fun k => V.int (k : Nat)
  | [], _ => rfl
  | z :: r, h => by
    have h0 := h z List.mem_cons_self
    rw [List.map_cons, List.map_cons, List.map_cons, nats_of fun y hy => h y (List.mem_cons_of_mem _ hy)]
    congr 2
    omega
def inZ (m : Nat) (z : Int) : Bool := decide (0 ≤ z) && decide (z < m)
section
variable {P : Program} {w : World} {K : PySem.W.Frag} {mg : Str → Option Value} {base : Heap} {C : Addr}
def sp_places : Sp := fun vs H Q _ => ∃ (g l : Addr) (ps : List Pc) (m n : Nat), vs = [.ref g, .ref l] ∧ PL H l ps ∧ OK m ps ∧ m ≤ 100 ∧ long ps < 2 ^ 190 ∧ 1 ≤ long ps ∧ Gn (n + 4) H g ∧
  ∀ r (ks : List Nat) H', SameX g H H' → Gn n H' g → H r = none → NL H' r ks → (∀ k ∈ ks, k < long ps) → ks.length ≤ 3 * ps.length + 5 → Q (.ref r) H'
theorem c_law_places (T : Txt K mg C) : C8.Cal P w K mg base 3 "_law_places" sp_places [] := by
  refine calF T.d_law_places sc_law_places (fun vs H Q E h => ?_) (fun f cdv A outer s H vs Q E hr h => ?_)
  · obtain ⟨_, _, _, _, _, rfl, _⟩ := h; rfl
  · obtain ⟨g, l, ps, m, n, rfl, pl, ok, hm, hlong, hl1, G, q⟩ := h
    refine ⟨_, (pss_cons (ps_asg (pe_tup (pa_cons (pe_lst (pa_cons pe_int pa_nil)) (pa_cons pe_int (pa_cons (C8.pe_c (c_law_long T) hr (by decide) (by rfl) (pa_cons (pv 1) pa_nil)) pa_nil)))) (pg_tup rfl (pgs_cons (pg_name (i := 2) sc_law_places.nd rfl (Or.inl rfl)) (pgs_cons (pg_name (i := 3) sc_law_places.nd rfl (Or.inr rfl)) (pgs_cons (pg_name (i := 4) sc_law_places.nd rfl (Or.inr rfl)) pgs_nil)))))
    (pss_cons (ps_for PassesOwn.never rfl (pi_list (pv 1)) (pg_two (K := K) (i := 5) (j := 6) rfl rfl sc_law_places.nd rfl rfl (Or.inl rfl) (Or.inl rfl))
    (pss_cons (ps_set (i := 3) sc_law_places.nd rfl (Or.inr rfl) (pe_op op_add (pv 3) (pe_op op_mulZ (pe_callB call_len_str (by rfl) T.m_len (by decide +kernel) (pa_cons (pv 5) pa_nil)) (pv 6))))
    (pss_one (ps_set (i := 2) sc_law_places.nd rfl (Or.inl rfl) (pe_op op_cat (pv 2) (pe_lc (own := [("_law_at", 7)]) (by rfl) sc_law_places.nd (pi_list (pe_lst (pa_cons (pe_un un_neg pe_int) (pa_cons pe_int (pa_cons pe_int pa_nil))))) (blkOk_by (N := ["_law_generator_here", "_law_pieces_here", "_law_found", "_law_start", "_law_long_here", "_law_word_here", "_law_times", "_law_at", "_law_turn"]) (sc := C8.fnScope (topS 56)) (own := [("_law_at", 7)]) (by decide +kernel)) (fun _ _ _ _ _ => (pg_name (i := 7) sc_law_places.nd rfl (Or.inl rfl))) (fun _ _ _ _ _ => pts_nil) (fun _ _ _ _ _ => (pe_op op_add (pv 3) (pv 7)))))))))
    (pss_cons (ps_set (i := 2) sc_law_places.nd rfl (Or.inl rfl) (pe_op op_cat (pv 2) (pe_lc (own := [("_law_turn", 8)]) (by rfl) sc_law_places.nd (pi_range1 (by rfl) T.m_range (pa_cons pe_int pa_nil)) (blkOk_by (N := ["_law_generator_here", "_law_pieces_here", "_law_found", "_law_start", "_law_long_here", "_law_word_here", "_law_times", "_law_at", "_law_turn"]) (sc := C8.fnScope (topS 56)) (own := [("_law_turn", 8)]) (by decide +kernel)) (fun _ _ _ _ _ => (pg_name (i := 8) sc_law_places.nd rfl (Or.inl rfl))) (fun _ _ _ _ _ => pts_nil) (fun _ _ _ _ _ => (C8.pe_c (c_law_random T) hr (by decide) (by rfl) (pa_cons (pv 0) (pa_cons (pv 4) pa_nil)))))))
    (pss_one (ps_ret (pe_lc (own := [("_law_at", 7)]) (by rfl) sc_law_places.nd (pi_list (pv 2)) (blkOk_by (N := ["_law_generator_here", "_law_pieces_here", "_law_found", "_law_start", "_law_long_here", "_law_word_here", "_law_times", "_law_at", "_law_turn"]) (sc := C8.fnScope (topS 56)) (own := [("_law_at", 7)]) (by decide +kernel)) (fun _ _ _ _ _ => (pg_name (i := 7) sc_law_places.nd rfl (Or.inl rfl))) (fun _ _ _ _ _ => (pts_one (PW.pt (pw_and (pt_cmpR op_le pe_int (pv 7) (nomark _)) (pw_and1 (pt_cmpR op_lt (pv 7) (pv 4) (nomark _))))))) (fun _ _ _ _ _ => (pv 7)))))))), ?_⟩
    refine ⟨by show 1 ≤ sizeLine; decide, fun L hL => ?_⟩
    have s0 := sameNew (o := .lst [V.int 0]) hL
    have Lg := G.ne hL
    refine ⟨_, rfl, l, ps, m, rfl, pl.same s0, ok, by omega, fun H1 s1 => ⟨by show 3 ≤ sizeLine; decide, fun t ht => ?_⟩⟩
    have st := sameNew (o := .tup [V.ref L, V.int 0, V.int (long ps : Nat)]) ht
    refine ⟨t, _, rfl, .inl (.inl upd_same), rfl, _, _, rfl, _, _, rfl, _, _, rfl, rfl, ?_⟩
    have sA := (s0.trans s1).trans st
    obtain ⟨vs, hl, hp⟩ := pl.same sA
    have len := hp.len
    have okl := ok.len
    refine ⟨_, rfl, l, rfl, ⟨_, .inl (.inl hl)⟩, for_list (K := K) (a := l) (xs := vs) (fun i σ H' => Same (upd H1 t (.tup [V.ref L, V.int 0, V.int (long ps : Nat)])) H' ∧ i ≤ ps.length ∧ ∃ (F : Addr) (z : Int) (y5 y6 : Option V) (zs : List Int), σ = [some (.ref g), some (.ref l), some (.ref F), some (.int z), some (.int (long ps : Nat)), y5, y6, none, none] ∧ z = ((long (ps.take i) : Nat) : Int) ∧ F ≠ g ∧ H' F = some (.lst (zs.map V.int)) ∧ zs.length = 1 + 3 * i ∧ 0 ∈ zs)
      ⟨Same.refl _, Nat.zero_le _, L, 0, none, none, [0], rfl, rfl, Lg, st _ _ (s1 _ _ upd_same), rfl, List.mem_cons_self⟩ (fun i σ H' _ p => .inl (.inl (p.1 _ _ hl))) (fun i y σ H' hi p => ?_) (fun σ H' p => ?_)⟩
    · obtain ⟨s2, _, F, z, y5, y6, zs, rfl, rfl, Fg, hF, lz, m0⟩ := p
      obtain ⟨a, p, rfl, hpi, ha⟩ := hp.get hi
      have hmem := List.mem_of_getElem? hpi
      have hw := ok.word p hmem
      have ht' := ok.times (by omega) hmem
      have hii := (List.getElem?_eq_some_iff.mp hpi).1
      have lt := long_take hpi
      have pe : plen p = p.1.length * p.2 := rfl
      refine ⟨a, _, rfl, .inl (.inl (s2 _ _ ha)), rfl, _, _, rfl, _, _, rfl, rfl, ?_⟩
      refine ⟨_, rfl, _, rfl, S p.1, rfl, len_line (by omega), _, rfl, p.1.length, p.2, congrArg (fun n : Nat => V.int n) (S_len _), rfl, by omega, by omega, _, _, rfl, rfl, ?_⟩
      refine ⟨_, rfl, 1, rfl, by show 3 ≤ sizeLine; decide, fun M hM => ⟨M, rfl, ⟨_, .inl (.inl upd_same)⟩, fun D hD => ?_⟩⟩
      have sM := sameNew (o := .lst [V.int (-1), V.int 0, V.int 1]) hM
      refine lcL_map (K := K) (a := M) (xs := [(-1 : Int), 0, 1].map V.int) (fun v => match v with | .int j => .int (((long (ps.take i) : Nat) : Int) + ((p.1.length * p.2 : Nat) : Int) + j) | _ => .non) upd_same (small1000 (by decide)) (fun j x H3 R hx s3 q' => ?_) hD fun H3 s3 hD3 => ?_
      · obtain ⟨j', _, rfl⟩ := List.mem_map.mp (List.mem_of_getElem? hx)
        exact ⟨rfl, _, rfl, _, rfl, _, _, rfl, rfl, q' _ (Same.refl _)⟩
      · have hF3 := s3 _ _ (sM _ _ hF)
        refine ⟨F, D, _, _, rfl, rfl, hF3, hD3, ?_, fun p' hp' => ?_⟩
        · rw [List.length_map, List.length_map, lz, sizeLine_eq]
          show 1 + 3 * i + 3 ≤ _
          omega
        · refine ⟨(s2.trans sM).trans (s3.trans (sameNew hp')), hii, p', _, _, _, zs ++ [(-1 : Int), 0, 1].map (fun j => ((long (ps.take i) : Nat) : Int) + ((p.1.length * p.2 : Nat) : Int) + j), rfl, by rw [lt, pe]; omega, ?_, ?_, by rw [List.length_append, lz]; show 1 + 3 * i + 3 = _; omega, List.mem_append_left _ m0⟩
          · intro e
            obtain ⟨xs, hx⟩ := G.at
            have := (s2.trans sM).trans s3 _ _ (sA _ _ hx)
            rw [e, this] at hp'
            cases hp'
          · rw [upd_same, List.map_append]
            rfl
    · obtain ⟨s2, _, F, z, y5, y6, zs, rfl, rfl, Fg, hF, lz, m0⟩ := p
      have sB := sA.trans s2
      have G2 := G.same sB
      refine ⟨_, rfl, 4, rfl, by decide, by decide, fun D hD => ?_⟩
      refine lcD_draw (cnt := 4) (n := n) (g := g) (most := (long ps : Nat)) (small5 (by omega)) hD G2 (fun i H3 R hi s3 G3 q' => ?_) fun H3 ns s3 G3 hD3 hl3 hb => ?_
      · exact ⟨rfl, _, rfl, _, rfl, g, _, _, rfl, G3, by omega, by omega, fun r H4 s4 G4 r0 r1 => q' r H4 s4 G4 r0 (by omega)⟩
      · have hF3 := s3 _ _ Fg hF
        refine ⟨F, D, _, _, rfl, rfl, hF3, hD3, by rw [List.length_map, List.length_map, lz, hl3, sizeLine_eq]; omega, fun F2 hF2 => ?_⟩
        have hF2' : (upd H3 F2 (.lst (zs.map V.int ++ ns.map V.int))) F2 = some (.lst ((zs ++ ns).map V.int)) := by rw [upd_same, List.map_append]
        have s4 := sameNew (o := .lst (zs.map V.int ++ ns.map V.int)) hF2
        generalize hH4 : upd H3 F2 (.lst (zs.map V.int ++ ns.map V.int)) = H4 at hF2' s4
        have lall : (zs ++ ns).length ≤ 900 := by rw [List.length_append, lz, hl3]; omega
        have lex : (zs ++ ns).length ≤ 3 * ps.length + 5 := by rw [List.length_append, lz, hl3]; omega
        have mall : 0 ∈ zs ++ ns := List.mem_append_left _ m0
        generalize hal : zs ++ ns = al at hF2' lall mall lex
        refine ⟨_, rfl, F2, rfl, ⟨_, .inl (.inl hF2')⟩, fun D2 hD2 => ?_⟩
        refine lc_list (K := K) (a := F2) (xs := al.map V.int) (fun i H5 => Same H4 H5 ∧ H5 D2 = some (.lst (((al.take i).filter (inZ (long ps))).map V.int))) ⟨sameNew hD2, by rw [upd_same]; rfl⟩ (fun i H5 _ p => .inl (.inl (p.1 _ _ hF2'))) (fun i y H5 hi p => ?_) fun H5 p => ?_
        · obtain ⟨s5, hD5⟩ := p
          obtain ⟨z, mz, hz, rfl⟩ := get_int hi
          have hii := (List.getElem?_eq_some_iff.mp hz).1
          have tk : (al.take (i + 1)).filter (inZ (long ps)) = (al.take i).filter (inZ (long ps)) ++ (if inZ (long ps) z = true then [z] else []) := by
            rw [List.take_succ, hz, List.filter_append]
            congr 1
            simp [List.filter_cons]
          have no : inZ (long ps) z = false → Same H4 H5 ∧ H5 D2 = some (.lst (((al.take (i + 1)).filter (inZ (long ps))).map V.int)) := fun k => by
            rw [tk, k]
            simp only [Bool.false_eq_true, if_false, List.append_nil]
            exact ⟨s5, hD5⟩
          refine ⟨rfl, _, rfl, 0, z, rfl, rfl, _, rfl, ite2 (fun e => ?_) (fun e => ?_)⟩
          · refine ⟨_, rfl, _, rfl, z, _, rfl, rfl, _, rfl, ite2 (fun e2 => ?_) (fun e2 => ?_)⟩
            · have k : inZ (long ps) z = true := by unfold inZ; rw [e, e2]; rfl
              refine ⟨_, rfl, _, hD5, ?_, same_upd2 hD2 s5, ?_⟩
              · rw [List.length_map]
                have := List.length_filter_le (inZ (long ps)) (al.take i)
                rw [List.length_take] at this
                rw [sizeLine_eq]
                omega
              · rw [upd_same, tk, if_pos k, List.map_append]
                rfl
            · refine no ?_
              unfold inZ
              rw [Bool.not_eq_true] at e2
              rw [e2, Bool.and_false]
          · refine no ?_
            unfold inZ
            rw [Bool.not_eq_true] at e
            rw [e, Bool.false_and]
        · obtain ⟨s5, hD5⟩ := p
          rw [List.length_map, List.take_length] at hD5
          have mem : ∀ z ∈ al.filter (inZ (long ps)), 0 ≤ z ∧ z < (long ps : Nat) := fun z hz => by
            have := (List.mem_filter.mp hz).2
            unfold inZ at this
            simp only [Bool.and_eq_true, decide_eq_true_eq] at this
            exact this
          have sx4 : SameX g H H4 := (SameX.of sB).trans (s3.trans (.of s4))
          refine q D2 ((al.filter (inZ (long ps))).map Int.toNat) H5 (sx4.trans (.of s5)) ((G3.same s4).same s5) (freeX sx4 (G3.same s4) hD2) ?_ ?_ ?_
          · unfold NL
            rw [hD5, nats_of fun z hz => (mem z hz).1]
          · intro k hk
            obtain ⟨z, hz, rfl⟩ := List.mem_map.mp hk
            have := mem z hz
            omega
          · rw [List.length_map]
            have := List.length_filter_le (inZ (long ps)) al
            omega
end
end K04K

set_option Elab.async false
set_option linter.all false
set_option maxRecDepth 100000
set_option maxHeartbeats 8000000
set_option exponentiation.threshold 1000
namespace K04K
open K04 PySem PySem.Spec PyProof.Rows L2 CK SX KM
theorem mk_kept {C : Addr} {Hc : Hp} {x dx l : Addr} {ps : List Pc} {n : Nat} {R : V → Hp → Prop} {E : XK} (nx : Hc x = none) (ndx : Hc dx = none) (nex : dx ≠ x) (pl : PL Hc l ps) (ok : OK n ps) (hn : n ≤ 1000)
    (q : ∀ H', Same Hc H' → KWf C Hc H' x (tidy ps) → R .non H') : sp_init C [.ref x, .ref l] (upd (upd Hc dx (.own x)) x (.ins C dx [])) R E := by
  have s0 : Same Hc (upd (upd Hc dx (.own x)) x (.ins C dx [])) := fun b o e => by
    rw [upd_ne (ne_of_none e nx), upd_ne (ne_of_none e ndx)]
    exact e
  refine ⟨x, dx, l, ps, n, rfl, upd_same, pl.same s0, ok, hn, fun H1 s1 k1 => q H1 (fun b o e => ?_) (k1.pre s0)⟩
  exact s1 _ _ (fun z => by rw [z, nx] at e; cases e) (s0 _ _ e)
theorem lcp_same (w : List Nat) : WM.lcp w w = w.length := by
  have a := (WM.lcp_le w w).1
  have b := WM.le_lcp w w w.length (Nat.le_refl _) (Nat.le_refl _) rfl
  omega
theorem ord_same (w : List Nat) : ord w w = 0 := of_decide_eq_true ((ord_zero w w).trans (decide_eq_true rfl))
theorem ty_ne {ps : List Pc} (h : Ty ps) : ∀ p ∈ ps, p.1 ≠ [] ∧ p.2 ≠ 0 := h.all
section
variable {P : Program} {w : World} {K : PySem.W.Frag} {mg : Str → Option Value} {base : Heap} {C : Addr}
def sp_same_right (C : Addr) : Sp := fun vs H Q _ => ∃ (o l l2 : Addr) (ps qs : List Pc) (n : Nat), vs = [.ref o, .ref l, .ref l2] ∧ KW C H o ps ∧ PL H l ps ∧ PL H l2 qs ∧ OK n ps ∧ OK n qs ∧ n ≤ 1000 ∧ Ty ps ∧ wr qs = wr ps ∧ ∀ H', Same H H' → Q (.bl true) H'
theorem c_law_same_right (T : Txt K mg C) : C8.Cal P w K mg base 8 "_law_same_right" (sp_same_right C) [] := by
  refine calF T.d_law_same_right sc_law_same_right (fun vs H Q E h => ?_) (fun f0 cdv A outer s0 H vs Q E hr h => ?_)
  · obtain ⟨_, _, _, _, _, _, rfl, _⟩ := h; rfl
  · obtain ⟨o, l, l2, ps, qs, n, rfl, ko, pl, pl2, okp, okq, hn, ty, ew, q⟩ := h
    refine ⟨_, (pss_cons (ps_par (i := 3) (j := 4) (by rfl) sc_law_same_right.nd rfl rfl (by decide) rfl rfl (pa_cons (C8.pe_mk (n_KeptWord T) hr (by decide) (by rfl) (pa_cons (pe_callTy call_list_of (by rfl) T.m_list (by decide +kernel) (pa_cons (pv 2) pa_nil)) pa_nil)) (pa_cons (C8.pe_c (c_law_long T) hr (by decide) (by rfl) (pa_cons (pv 1) pa_nil)) pa_nil)) (by rfl))
    (pss_cons (ps_if (PW.pt (pw_or (pt_cmpR op_ne (C8.pe_c (c_agree T) hr (by decide) (by rfl) (pa_cons (pv 0) (pa_cons (pv 3) pa_nil))) (pv 4) (nomark _)) (pw_or (pt_cmpR op_ne (C8.pe_c (c_agree T) hr (by decide) (by rfl) (pa_cons (pv 3) (pa_cons (pv 0) pa_nil))) (pv 4) (nomark _)) (pw_or (pt_cmpR op_ne (C8.pe_mt0 (m_KeptWord_length T) hr (by decide) (pv 0)) (pv 4) (nomark _)) (pw_or1 (pt_cmpR op_ne (C8.pe_mt0 (m_KeptWord_length T) hr (by decide) (pv 3)) (pv 4) (nomark _)))))))
    (pss_one (ps_ret pe_bl))
    pss_nil)
    (pss_cons (ps_if (PW.pt (pw_or (pt_cmpR op_notBl (C8.pe_c (c_same_kept T) hr (by decide) (by rfl) (pa_cons (pv 0) (pa_cons (pv 3) pa_nil))) pe_bl (nomark _)) (pw_or (pt_cmpR op_ne (C8.pe_c (c_compare T) hr (by decide) (by rfl) (pa_cons (pv 0) (pa_cons (pv 3) pa_nil))) pe_int (nomark _)) (pw_or1 (pt_cmpR op_ne (C8.pe_c (c_compare T) hr (by decide) (by rfl) (pa_cons (pv 3) (pa_cons (pv 0) pa_nil))) pe_int (nomark _))))))
    (pss_one (ps_ret pe_bl))
    pss_nil)
    (pss_one (ps_ret (pe_and (pe_cmpR (op_eqD hr.units) (C8.pe_mt0 (m_KeptWord_pieces T) hr (by decide) (pv 0)) (pv 1) (nomark _)) (pe_one (pe_cmpR (op_eqD hr.units) (C8.pe_mt0 (m_KeptWord_pieces T) hr (by decide) (pv 3)) (C8.pe_c (c_law_tidied T) hr (by decide) (by rfl) (pa_cons (pv 2) pa_nil)) (nomark _))))))))), ?_⟩
    obtain ⟨ws, hws, pws⟩ := id pl2
    have tyq := ty_tidy qs
    have okq' := okq.tidy
    have ewq : wr (tidy qs) = wr ps := by rw [wr_tidy, ew]
    have low : ∀ p ∈ ps, Low p.1 := fun p hp => (okp.word p hp).2
    have lowq : ∀ p ∈ tidy qs, Low p.1 := fun p hp => (okq'.word p hp).2
    refine ⟨_, rfl, l2, ws, rfl, .inl (.inl (.inl hws)), fun L9 n9 => ?_⟩
    have s9 := sameNew (o := .lst ws) n9
    have P9 : PL (upd H L9 (.lst ws)) L9 qs := ⟨ws, upd_same, pws.same s9⟩
    intro xa dxa nxa ndxa nexa
    refine mk_kept nxa ndxa nexa P9 okq hn fun Ha sa kfa => ⟨rfl, ?_⟩
    have s0a := s9.trans sa
    obtain ⟨dx2, l0, e0, hx, ha1, ha2, _⟩ := kfa
    have ka : KW C Ha xa (tidy qs) := ⟨dx2, l0, e0, hx, ha1, ha2⟩
    refine ⟨_, rfl, l, ps, n, rfl, pl.same s0a, okp, hn, fun H1 s1 => ⟨_, _, rfl, ?_⟩⟩
    have s01 := s0a.trans s1
    have ka := ka.same s1
    have ko1 := ko.same s01
    have tn := ty_ne ty
    have tnq := ty_ne tyq
    have l1 : WM.lcp (wr ps) (wr (tidy qs)) = long ps := by rw [ewq, lcp_same, wr_len]
    have lc2 : WM.lcp (wr (tidy qs)) (wr ps) = long ps := by rw [ewq, lcp_same, wr_len]
    have l3 : long (tidy qs) = long ps := by rw [← wr_len, ewq, wr_len]
    have ne_no : ∀ a : V, (!decide (a = a)) = false := fun a => by rw [decide_eq_true rfl]; rfl
    refine ⟨_, rfl, _, rfl, o, xa, ps, tidy qs, n, rfl, ko1, ka, okp, okq', hn, tn, tnq, fun H2 s2 => ?_⟩
    rw [l1]
    refine ⟨_, rfl, rfl, false, congrArg V.bl (ne_no _), iteF ?_⟩
    refine ⟨_, rfl, _, rfl, xa, o, tidy qs, ps, n, rfl, ka.same s2, ko1.same s2, okq', okp, hn, tnq, tn, fun H3 s3 => ?_⟩
    rw [lc2]
    refine ⟨_, rfl, rfl, false, congrArg V.bl (ne_no _), iteF ?_⟩
    have s23 := s2.trans s3
    have ka := ka.same s23
    have ko1 := ko1.same s23
    obtain ⟨dxo, lo, eo, ho, _, _⟩ := id ko1
    obtain ⟨dxa', la', ea', ha', _, _⟩ := id ka
    refine ⟨_, rfl, o, dxo, _, rfl, ho, kf_no lo eo (by decide +kernel) (by decide +kernel), o, ps, rfl, ko1, _, rfl, rfl, false, congrArg V.bl (ne_no _), iteF ?_⟩
    refine ⟨_, rfl, xa, dxa', _, rfl, ha', kf_no la' ea' (by decide +kernel) (by decide +kernel), xa, tidy qs, rfl, ka, ?_⟩
    rw [l3]
    refine ⟨_, rfl, rfl, false, congrArg V.bl (ne_no _), iteF ?_⟩
    rw [tnext_eq]
    -- the same word
    refine ⟨_, rfl, _, rfl, o, xa, ps, tidy qs, n, rfl, ko1, ka, okp, okq', hn, tn, tnq, fun H4 s4 => ?_⟩
    rw [decide_eq_true ewq.symm]
    have o1 : ord (wr ps) (wr (tidy qs)) = 0 := by rw [ewq, ord_same]
    have o2 : ord (wr (tidy qs)) (wr ps) = 0 := by rw [ewq, ord_same]
    refine ⟨_, _, rfl, rfl, false, rfl, iteF ?_⟩
    refine ⟨_, rfl, _, rfl, o, xa, ps, tidy qs, n, rfl, ko1.same s4, ka.same s4, okp, okq', hn, tn, tnq, fun H5 s5 => ?_⟩
    rw [o1]
    refine ⟨rfl, false, congrArg V.bl (ne_no _), iteF ?_⟩
    have s45 := s4.trans s5
    refine ⟨_, rfl, _, rfl, xa, o, tidy qs, ps, n, rfl, ka.same s45, ko1.same s45, okq', okp, hn, tnq, tn, fun H6 s6 => ?_⟩
    rw [o2]
    refine ⟨rfl, false, congrArg V.bl (ne_no _), iteF ?_⟩
    rw [tnext_eq]
    have s46 := s45.trans s6
    have ka := ka.same s46
    have ko1 := ko1.same s46
    have ho := s46 _ _ ho
    have ha' := s46 _ _ ha'
    have s06 := (s01.trans s23).trans s46
    -- the pieces
    refine ⟨_, rfl, o, dxo, _, rfl, ho, kf_no lo eo (by decide +kernel) (by decide +kernel), o, ps, rfl, ko1, fun u1 H7 s7 n7 P7 => ?_⟩
    refine ⟨_, rfl, .list (ps.map dPc), .list (ps.map dPc), dp_pcs P7, dp_pcs (pl.same (s06.trans s7)), shaped_pcs low, shaped_pcs low, ?_⟩
    rw [SeqAt.eqv_refl _ (SeqAt.canLay_of_shaped (shaped_pcs low))]
    refine ⟨true, rfl, iteT ?_⟩
    refine ⟨_, rfl, xa, dxa', _, rfl, s7 _ _ ha', kf_no la' ea' (by decide +kernel) (by decide +kernel), xa, tidy qs, rfl, ka.same s7, fun u2 H8 s8 n8 P8 => ?_⟩
    refine ⟨_, rfl, l2, qs, n, rfl, pl2.same ((s06.trans s7).trans s8), okq, hn, fun u3 H9 s9' n9' P9' => ?_⟩
    refine ⟨.list ((tidy qs).map dPc), .list ((tidy qs).map dPc), dp_pcs (P8.same s9'), dp_pcs P9', shaped_pcs lowq, shaped_pcs lowq, ?_⟩
    rw [SeqAt.eqv_refl _ (SeqAt.canLay_of_shaped (shaped_pcs lowq))]
    exact q H9 (((s06.trans s7).trans s8).trans s9')
end
end K04K

set_option Elab.async false
set_option linter.all false
set_option maxRecDepth 100000
set_option maxHeartbeats 8000000
set_option exponentiation.threshold 1000
namespace K04K
open K04 PySem PySem.Spec PyProof.Rows L2 CK SX KM
/-! two words that part at one place -/
theorem lcp_diff {A B C : List Nat} {x y : Nat} (h : x ≠ y) : WM.lcp (A ++ x :: B) (A ++ y :: C) = A.length := by
  have l1 : (A ++ x :: B).length = A.length + (B.length + 1) := by simp
  have l2 : (A ++ y :: C).length = A.length + (C.length + 1) := by simp
  have a := WM.le_lcp (A ++ x :: B) (A ++ y :: C) A.length (by omega) (by omega) (by simp)
  by_cases z : A.length + 1 ≤ WM.lcp (A ++ x :: B) (A ++ y :: C)
  · have t := WM.lcp_take _ _ _ z
    have g := congrArg (fun l : List Nat => l[A.length]?) t
    simp at g
    exact absurd g h
  · omega
theorem lcp_pre (A B : List Nat) : WM.lcp A (A ++ B) = A.length := by
  have a := WM.le_lcp A (A ++ B) A.length (Nat.le_refl _) (by simp) (by simp)
  have := (WM.lcp_le A (A ++ B)).1
  omega
theorem lcp_pre' (A B : List Nat) : WM.lcp (A ++ B) A = A.length := by
  have a := WM.le_lcp (A ++ B) A A.length (by simp) (Nat.le_refl _) (by simp)
  have := (WM.lcp_le (A ++ B) A).2
  omega
/-- the order of two letters -/
def ordL (x y : Nat) : Int := if decide ((S [x]).cps.toList < (S [y]).cps.toList) = true then -1 else 1
theorem ord_diff {A B C : List Nat} {x y : Nat} (h : x ≠ y) : ord (A ++ x :: B) (A ++ y :: C) = ordL x y := by
  unfold ord ordL
  have l1 : (A ++ x :: B).length = A.length + (B.length + 1) := by simp
  have l2 : (A ++ y :: C).length = A.length + (C.length + 1) := by simp
  have g1 : (A ++ x :: B).getD A.length 0 = x := by simp
  have g2 : (A ++ y :: C).getD A.length 0 = y := by simp
  rw [lcp_diff h, if_neg (by omega), g1, g2]
theorem ord_pre {A B : List Nat} (h : B ≠ []) : ord A (A ++ B) = -1 := by
  have l0 := List.length_pos_iff.mpr h
  have l1 : (A ++ B).length = A.length + B.length := by simp
  unfold ord
  rw [lcp_pre, if_pos (.inl rfl), l1, decide_eq_false (show ¬ A.length < A.length by omega), decide_eq_true (show A.length < A.length + B.length by omega)]
  rfl
theorem ord_pre' {A B : List Nat} (h : B ≠ []) : ord (A ++ B) A = 1 := by
  have l0 := List.length_pos_iff.mpr h
  have l1 : (A ++ B).length = A.length + B.length := by simp
  unfold ord
  rw [lcp_pre', if_pos (.inr rfl), l1, decide_eq_false (show ¬ A.length < A.length by omega), decide_eq_true (show A.length < A.length + B.length by omega)]
  rfl
theorem letters_lt (x y : Nat) : decide ((S [x]).cps.toList < (S [y]).cps.toList) = decide (x < y) := by
  refine decide_eq_decide.mpr ?_
  show ([x] : List Nat) < [y] ↔ x < y
  constructor
  · intro h
    cases h with
    | rel h => exact h
    | cons h => cases h
  · exact fun h => .rel h
theorem ordL_swap {x y : Nat} (h : x ≠ y) : ordL y x = 0 - ordL x y := by
  unfold ordL
  rw [letters_lt, letters_lt]
  by_cases z : x < y
  · rw [decide_eq_true z, decide_eq_false (show ¬ y < x by omega)]
    rfl
  · rw [decide_eq_false z, decide_eq_true (show y < x by omega)]
    rfl
/-- a word, its letter at a place, what is ahead and behind -/
theorem word_at {w : List Nat} {i c : Nat} (h : w[i]? = some c) : w = w.take i ++ c :: w.drop (i + 1) := by
  have hi := (List.getElem?_eq_some_iff.mp h).1
  conv => lhs; rw [← List.take_append_drop i w, List.drop_eq_getElem_cons hi]
  rw [(List.getElem?_eq_some_iff.mp h).2]
/-- of three letters two at least are others than a fourth one -/
theorem other_two {cs : List Nat} (h : Dist cs) (d : Nat) : 2 ≤ (cs.filter fun c => decide (c ≠ d)).length := by
  obtain ⟨a, b, c, rfl, ab, ac, bc⟩ := h
  by_cases z1 : a = d
  · by_cases z2 : b = d
    · exact absurd (z1.trans z2.symm) ab
    · by_cases z3 : c = d
      · exact absurd (z1.trans z3.symm) ac
      · simp [z1, z2, z3]
  · by_cases z2 : b = d
    · by_cases z3 : c = d
      · exact absurd (z2.trans z3.symm) bc
      · simp [z1, z2, z3]
    · by_cases z3 : c = d
      · simp [z1, z2, z3]
      · simp [z1, z2, z3]
end K04K

set_option Elab.async false
set_option linter.all false
set_option maxRecDepth 100000
set_option maxHeartbeats 8000000
set_option exponentiation.threshold 1000
namespace K04K
open K04 PySem PySem.Spec PyProof.Rows L2 CK SX KM
/-! bounds of what is tidied and of parts -/
theorem stepT_b (acc : List Pc) (p : Pc) : (stepT acc p).length ≤ acc.length + 1 ∧ lts (stepT acc p) ≤ lts acc + p.1.length ∧ cnts (stepT acc p) ≤ cnts acc + p.2 ∧ ∀ q ∈ stepT acc p, q.1 = p.1 ∨ ∃ r ∈ acc, q.1 = r.1 := by
  have app : ∀ (a : List Pc) (x : Pc), lts (a ++ [x]) = lts a + x.1.length ∧ cnts (a ++ [x]) = cnts a + x.2 := fun a x => by
    rw [lts_app, cnts_app]
    exact ⟨rfl, rfl⟩
  have put : (acc ++ [p]).length ≤ acc.length + 1 ∧ lts (acc ++ [p]) ≤ lts acc + p.1.length ∧ cnts (acc ++ [p]) ≤ cnts acc + p.2 ∧ ∀ q ∈ acc ++ [p], q.1 = p.1 ∨ ∃ r ∈ acc, q.1 = r.1 := by
    obtain ⟨a, b⟩ := app acc p
    refine ⟨by simp, by omega, by omega, fun q hq => ?_⟩
    rcases List.mem_append.mp hq with z | z
    · exact .inr ⟨q, z, rfl⟩
    · rw [List.mem_singleton.mp z]; exact .inl rfl
  unfold stepT
  split
  · exact ⟨by omega, by omega, by omega, fun q hq => .inr ⟨q, hq, rfl⟩⟩
  · split
    · next q0 hq =>
      split
      · next e =>
        have s := last_split hq
        obtain ⟨a, b⟩ := app acc.dropLast (p.1, p.2 + q0.2)
        obtain ⟨c, d⟩ := app acc.dropLast q0
        rw [← s] at c d
        have l : acc.length = acc.dropLast.length + 1 := by
          conv => lhs; rw [s]
          simp
        refine ⟨by rw [List.length_append, List.length_singleton]; omega, by rw [a, c]; show _ + p.1.length ≤ _; omega, by rw [b, d]; show _ + (p.2 + q0.2) ≤ _; omega, fun q hq' => ?_⟩
        rcases List.mem_append.mp hq' with z | z
        · exact .inr ⟨q, by rw [s]; exact List.mem_append_left _ z, rfl⟩
        · rw [List.mem_singleton.mp z]; exact .inl rfl
      · exact put
    · exact put
theorem fold_b : ∀ (ps acc : List Pc), (ps.foldl stepT acc).length ≤ acc.length + ps.length ∧ lts (ps.foldl stepT acc) ≤ lts acc + lts ps ∧ cnts (ps.foldl stepT acc) ≤ cnts acc + cnts ps ∧ ∀ q ∈ ps.foldl stepT acc, (∃ r ∈ ps, q.1 = r.1) ∨ ∃ r ∈ acc, q.1 = r.1
  | [], acc => ⟨Nat.le_refl _, Nat.le_refl _, Nat.le_refl _, fun q hq => .inr ⟨q, hq, rfl⟩⟩
  | p :: r, acc => by
    obtain ⟨a, b, c, d⟩ := stepT_b acc p
    obtain ⟨a', b', c', d'⟩ := fold_b r (stepT acc p)
    have e1 : lts (p :: r) = p.1.length + lts r := rfl
    have e2 : cnts (p :: r) = p.2 + cnts r := rfl
    rw [List.foldl_cons]
    refine ⟨by rw [List.length_cons]; omega, by omega, by omega, fun q hq => ?_⟩
    rcases d' q hq with ⟨x, hx, e⟩ | ⟨x, hx, e⟩
    · exact .inl ⟨x, List.mem_cons_of_mem _ hx, e⟩
    · rcases d x hx with z | ⟨y, hy, z⟩
      · exact .inl ⟨p, List.mem_cons_self, e.trans z⟩
      · exact .inr ⟨y, hy, e.trans z⟩
theorem SB.tidy {k m s t : Nat} {ps : List Pc} (h : SB k m s t ps) : SB k m s t (KM.tidy ps) := by
  obtain ⟨a, b, c, d⟩ := fold_b ps []
  have a : (KM.tidy ps).length ≤ 0 + ps.length := a
  have b : lts (KM.tidy ps) ≤ 0 + lts ps := b
  have c : cnts (KM.tidy ps) ≤ 0 + cnts ps := c
  have h1 := h.len
  have h2 := h.lets
  have h3 := h.cnt
  refine ⟨by omega, fun q hq => ?_, by omega, by omega⟩
  rcases d q hq with ⟨x, hx, e⟩ | ⟨x, hx, _⟩
  · rw [e]; exact h.word x hx
  · cases hx
theorem SB.app {k m s t k' s' t' : Nat} {ps qs : List Pc} (h : SB k m s t ps) (g : SB k' m s' t' qs) : SB (k + k') m (s + s') (t + t') (ps ++ qs) :=
  ⟨by rw [List.length_append]; exact Nat.add_le_add h.len g.len, fun p hp => (List.mem_append.mp hp).elim (h.word p) (g.word p), by rw [lts_app]; exact Nat.add_le_add h.lets g.lets, by rw [cnts_app]; exact Nat.add_le_add h.cnt g.cnt⟩
theorem SB.ok {k m s t n : Nat} {ps : List Pc} (h : SB k m s t ps) (h1 : k ≤ n) (h2 : m ≤ 1000) (h3 : s ≤ n * 10) (h4 : t ≤ n * 2 ^ 200) : OK n ps :=
  ⟨Nat.le_trans h.len h1, fun p hp => ⟨Nat.le_trans (h.word p hp).1 h2, (h.word p hp).2⟩, Nat.le_trans h.cnt h4, Nat.le_trans h.lets h3⟩
theorem SB.cut {lo hi k m s t : Nat} {ps : List Pc} (h : SB k m s t ps) (ne : ∀ p ∈ ps, p.1 ≠ []) : SB (2 * k) m (2 * s) (t + k) (cutF lo hi 0 ps) := by
  have key : ∀ (ps : List Pc) (z : Nat), (∀ p ∈ ps, p.1.length ≤ m ∧ Low p.1) → (∀ p ∈ ps, p.1 ≠ []) → (∀ q ∈ cutF lo hi z ps, q.1.length ≤ m ∧ Low q.1) ∧ cnts (cutF lo hi z ps) ≤ cnts ps + ps.length := by
    intro ps
    induction ps with
    | nil => exact fun z _ _ => ⟨fun q hq => absurd hq List.not_mem_nil, Nat.zero_le _⟩
    | cons p r ih =>
      intro z h1 h2
      have hw := h1 p List.mem_cons_self
      have n0 := List.length_pos_iff.mpr (h2 p List.mem_cons_self)
      have rl := rot_len p.1 ((lo - z) % p.1.length)
      obtain ⟨c, d⟩ := ih (z + plen p) (fun q hq => h1 q (List.mem_cons_of_mem _ hq)) (fun q hq => h2 q (List.mem_cons_of_mem _ hq))
      have one : (∀ q ∈ cut1 lo hi z p, q.1.length ≤ m ∧ Low q.1) ∧ cnts (cut1 lo hi z p) ≤ p.2 + 1 := by
        unfold cut1
        split
        · unfold two
          refine ⟨fun q hq => ?_, ?_⟩
          · rcases List.mem_cons.mp hq with y | y
            · rw [y]
              exact ⟨by show (rot _ _).length ≤ m; omega, low_rot hw.2⟩
            · rw [List.mem_singleton.mp y]
              exact ⟨by show ((rot _ _).take _).length ≤ m; rw [List.length_take]; omega, fun c hc => low_rot hw.2 c (List.mem_of_mem_take hc)⟩
          · have e1 : (min hi (z + plen p) - z - (lo - z)) / p.1.length ≤ p.2 := by
              refine Nat.le_trans (Nat.div_le_div_right (show _ ≤ p.1.length * p.2 from ?_)) (Nat.le_of_eq (Nat.mul_div_cancel_left _ n0))
              show min hi (z + plen p) - z - (lo - z) ≤ plen p
              omega
            show (min hi (z + plen p) - z - (lo - z)) / p.1.length + (1 + 0) ≤ _
            omega
        · exact ⟨fun q hq => absurd hq List.not_mem_nil, Nat.zero_le _⟩
      refine ⟨fun q hq => ?_, ?_⟩
      · rcases List.mem_append.mp hq with y | y
        · exact one.1 q y
        · exact c q y
      · have e2 : cnts (p :: r) = p.2 + cnts r := rfl
        rw [cutF, cnts_app, List.length_cons, e2]
        have := one.2
        omega
  obtain ⟨a, b⟩ := key ps 0 h.word ne
  have h1 := h.len
  have h2 := h.lets
  have h3 := h.cnt
  have l := cutF_len lo hi ps 0
  have l2 : lts (cutF lo hi 0 ps) ≤ 2 * lts ps := lets_cut ps 0
  exact ⟨by omega, a, by omega, by omega⟩
theorem SB.part {lo hi k m s t : Nat} {ps : List Pc} (h : SB k m s t ps) (ne : ∀ p ∈ ps, p.1 ≠ []) : SB (2 * k) m (2 * s) (t + k) (KM.part ps lo hi) := (h.cut ne).tidy
end K04K

set_option Elab.async false
set_option linter.all false
set_option maxRecDepth 100000
set_option maxHeartbeats 8000000
set_option exponentiation.threshold 1000
namespace K04K
open K04 PySem PySem.Spec PyProof.Rows L2 CK SX KM
theorem long_tidy (ps : List Pc) : long (tidy ps) = long ps := by rw [← wr_len, wr_tidy, wr_len]
/-- a kept word that shares nothing with the generator -/
def KG (C g : Addr) (H : Hp) (p : Addr) (ps : List Pc) : Prop := ∃ dx l e, H p = some (.ins C dx (KF l e)) ∧ PL H l ps ∧ EL H e ps ∧ e ≠ g
theorem KG.kw {C g : Addr} {H : Hp} {p : Addr} {ps : List Pc} (h : KG C g H p ps) : KW C H p ps := by
  obtain ⟨dx, l, e, h1, h2, h3, _⟩ := h
  exact ⟨dx, l, e, h1, h2, h3⟩
theorem KG.sameX {C g : Addr} {H H' : Hp} {p : Addr} {ps : List Pc} {n : Nat} (h : KG C g H p ps) (G : Gn n H g) (s : SameX g H H') : KG C g H' p ps := by
  obtain ⟨dx, l, e, h1, h2, h3, h4⟩ := h
  refine ⟨dx, l, e, s _ _ (fun z => ?_) h1, h2.sameX G s, s _ _ h4 h3, h4⟩
  obtain ⟨xs, hx⟩ := G.at
  rw [z, hx] at h1
  cases h1
theorem KWf.kg {C g : Addr} {H0 H : Hp} {p : Addr} {ps : List Pc} {n : Nat} (h : KWf C H0 H p ps) (G : Gn n H0 g) : KG C g H p ps := by
  obtain ⟨dx, l, e, h1, h2, h3, h4⟩ := h
  refine ⟨dx, l, e, h1, h2, h3, fun z => ?_⟩
  obtain ⟨xs, hx⟩ := G.at
  rw [z, hx] at h4
  cases h4
end K04K

set_option Elab.async false
set_option linter.all false
set_option maxRecDepth 100000
set_option maxHeartbeats 8000000
set_option exponentiation.threshold 1000
namespace K04K
open K04 PySem PySem.Spec PyProof.Rows L2 CK SX KM
theorem ne_no (a : V) : (!decide (a = a)) = false := by rw [decide_eq_true rfl]; rfl
/-- what is known of the two kept words that differ at one place -/
structure TwoW (C : Addr) (H : Hp) (o xa : Addr) (ps qs : List Pc) (i c x : Nat) : Prop where
  ko : KW C H o ps
  kx : KW C H xa (tidy qs)
  okp : OK 20 ps
  okq : OK 100 qs
  ty : Ty ps
  hc : (wr ps)[i]? = some c
  ewq : wr qs = (wr ps).take i ++ x :: (wr ps).drop (i + 1)
  cx : c ≠ x
theorem TwoW.same {C : Addr} {H H' : Hp} {o xa : Addr} {ps qs : List Pc} {i c x : Nat} (h : TwoW C H o xa ps qs i c x) (s : Same H H') : TwoW C H' o xa ps qs i c x := ⟨h.ko.same s, h.kx.same s, h.okp, h.okq, h.ty, h.hc, h.ewq, h.cx⟩
theorem TwoW.hi {C : Addr} {H : Hp} {o xa : Addr} {ps qs : List Pc} {i c x : Nat} (h : TwoW C H o xa ps qs i c x) : i < long ps := by
  have := (List.getElem?_eq_some_iff.mp h.hc).1
  rw [wr_len] at this
  exact this
theorem TwoW.lenA {C : Addr} {H : Hp} {o xa : Addr} {ps qs : List Pc} {i c x : Nat} (h : TwoW C H o xa ps qs i c x) : ((wr ps).take i).length = i := by
  rw [List.length_take, wr_len]
  have := h.hi
  omega
theorem TwoW.lenq {C : Addr} {H : Hp} {o xa : Addr} {ps qs : List Pc} {i c x : Nat} (h : TwoW C H o xa ps qs i c x) : long (tidy qs) = long ps := by
  have e := congrArg List.length (word_at h.hc)
  rw [wr_len, List.length_append, List.length_cons] at e
  rw [long_tidy, ← wr_len qs, h.ewq, List.length_append, List.length_cons]
  exact e.symm
section
variable {P : Program} {w : World} {K : PySem.W.Frag} {mg : Str → Option Value} {base : Heap} {C : Addr}
theorem changed_ten (T : Txt K mg C) (f0 : Addr) (cdv : Value) (A : Around) (outer : List Env) (s0 : Shared) (H0 : Hp) (E : XK) (hr : Room 11 (A.deeper (envOfC "_law_changed_right" (C8.fnScope (topS 58)) s0.heap.objs.size f0 cdv))) :
    ∃ u, PSs (cxOf C8.CX0 P w K mg base ["_law_generator_here", "_law_one", "_law_pieces_here", "_law_letters_here", "_law_at", "_law_old", "_law_long_here", "_law_letter_here", "_law_new", "_law_ahead", "_law_behind", "_law_made", "_law_other", "_law_due", "_law_cut", "_law_left", "_law_right", "_law_against"] "_law_changed_right" (C8.fnScope (topS 58)) f0 cdv A outer s0 H0 E).nox ((C8.fnBody (topS 58)).drop 10) u ∧
      ∀ (Dn : Ends) (H : Hp) (o l m xa xc : Addr) (ps qs as : List Pc) (i c x : Nat) (v0 v3 v5 v7 v8 v9 v10 : Option V), TwoW C H o xa ps qs i c x → PL H l ps → PL H m qs → KW C H xc as → OK 100 as → Ty as → wr as = (wr ps).take i →
        (∀ H', Same H H' → Dn.rt (.bl true) H') →
        u Dn [v0, some (.ref o), some (.ref l), v3, some (.int i), v5, some (.int (long ps : Nat)), v7, v8, v9, v10, some (.ref m), some (.ref xa), some (.int (ordL c x)), some (.ref xc), none, none, none] H := by
  refine ⟨_, (pss_cons (ps_par3 (i := 15) (j := 16) (l := 17) (by rfl) sc_law_changed_right.nd rfl rfl rfl (by decide) (by decide) (by decide) rfl rfl rfl (pa_cons (C8.pe_mt (m_KeptWord_part T) hr (by decide) (pv 1) (pa_cons pe_int (pa_cons (pv 4) pa_nil))) (pa_cons (C8.pe_mt (m_KeptWord_part T) hr (by decide) (pv 1) (pa_cons (pv 4) (pa_cons (pv 6) pa_nil))) (pa_cons (C8.pe_mt (m_KeptWord_part T) hr (by decide) (pv 12) (pa_cons (pv 4) (pa_cons (pv 6) pa_nil))) pa_nil))) (by rfl))
    (pss_cons (ps_if (PW.pt (pw_or (pt_cmpR op_notBl (C8.pe_c (c_same_kept T) hr (by decide) (by rfl) (pa_cons (pv 15) (pa_cons (pv 14) pa_nil))) pe_bl (nomark _)) (pw_or (pt_cmpR op_ne (C8.pe_c (c_agree T) hr (by decide) (by rfl) (pa_cons (pv 16) (pa_cons (pv 17) pa_nil))) pe_int (nomark _)) (pw_or1 (pt_cmpR op_ne (C8.pe_c (c_compare T) hr (by decide) (by rfl) (pa_cons (pv 16) (pa_cons (pv 17) pa_nil))) (pv 13) (nomark _))))))
    (pss_one (ps_ret pe_bl))
    pss_nil)
    (pss_one (ps_ret (pe_and (pe_cmpR (op_eqD hr.units) (C8.pe_mt0 (m_KeptWord_pieces T) hr (by decide) (pv 1)) (pv 2) (nomark _)) (pe_one (pe_cmpR (op_eqD hr.units) (C8.pe_mt0 (m_KeptWord_pieces T) hr (by decide) (pv 12)) (C8.pe_c (c_law_tidied T) hr (by decide) (by rfl) (pa_cons (pv 11) pa_nil)) (nomark _)))))))), ?_⟩
  intro Dn H o l m xa xc ps qs as i c x v0 v3 v5 v7 v8 v9 v10 h pl pm kc okc tyc ewc q
  have hi := h.hi
  have ne : ∀ p ∈ ps, p.1 ≠ [] := fun p hp => (h.ty.all p hp).1
  have nq : ∀ p ∈ tidy qs, p.1 ≠ [] := fun p hp => ((ty_tidy qs).all p hp).1
  have okt := h.okq.tidy
  have noP : ∀ l e, (KF l e).lookup ("pieces" : Str) = none := fun l e => kf_no l e (by decide +kernel) (by decide +kernel)
  have noA : ∀ l e, (KF l e).lookup ("part" : Str) = none := fun l e => kf_no l e (by decide +kernel) (by decide +kernel)
  obtain ⟨dx, l0, e0, ho, _, _⟩ := id h.ko
  refine ⟨_, rfl, o, dx, _, rfl, ho, noA _ _, _, rfl, o, ps, 20, 0, i, rfl, h.ko, h.okp, by decide, ne, Nat.zero_le _, Nat.le_of_lt hi, fun pa H1 s1 n1 k1 => ?_⟩
  refine ⟨_, rfl, o, dx, _, rfl, s1 _ _ ho, noA _ _, _, rfl, _, rfl, o, ps, 20, i, long ps, rfl, h.ko.same s1, h.okp, by decide, ne, Nat.le_of_lt hi, Nat.le_refl _, fun pb H2 s2 n2 k2 => ?_⟩
  have h2 := h.same (s1.trans s2)
  obtain ⟨dy, l1, e1, hx, _, _⟩ := id h2.kx
  refine ⟨_, rfl, xa, dy, _, rfl, hx, noA _ _, _, rfl, _, rfl, xa, tidy qs, 100, i, long ps, rfl, h2.kx, okt, by decide, nq, Nat.le_of_lt hi, Nat.le_of_eq h.lenq.symm, fun pc H3 s3 n3 k3 => ⟨_, _, _, rfl, ?_⟩⟩
  have s02 := s1.trans s2
  have s03 := s02.trans s3
  have h3 := h2.same s3
  have ka := (k1.kw.same s2).same s3
  have kb := k2.kw.same s3
  have kc3 := k3.kw
  have kd := kc.same s03
  have oka : OK 200 (KM.part ps 0 i) := ((h.okp.cut ne).tidy).le (by decide)
  have okb : OK 200 (KM.part ps i (long ps)) := ((h.okp.cut ne).tidy).le (by decide)
  have okd : OK 200 (KM.part (tidy qs) i (long ps)) := ((okt.cut nq).tidy).le (by decide)
  have wA : wr (KM.part ps 0 i) = (wr ps).take i := by rw [wr_part ne]; rfl
  have dW := word_at h.hc
  have lA := h.lenA
  have wB : wr (KM.part ps i (long ps)) = c :: (wr ps).drop (i + 1) := by
    rw [wr_part ne, ← wr_len, List.take_length]
    conv => lhs; rw [dW]
    rw [List.drop_left' lA]
  have wC : wr (KM.part (tidy qs) i (long ps)) = x :: (wr ps).drop (i + 1) := by
    rw [wr_part nq, ← h.lenq, ← wr_len, List.take_length, wr_tidy, h.ewq, List.drop_left' lA]
  have ta := ty_ne (ty_tidy (cutF 0 i 0 ps))
  have tb := ty_ne (ty_tidy (cutF i (long ps) 0 ps))
  have td := ty_ne (ty_tidy (cutF i (long ps) 0 (tidy qs)))
  have ta : ∀ p ∈ KM.part ps 0 i, p.1 ≠ [] ∧ p.2 ≠ 0 := ta
  have tb : ∀ p ∈ KM.part ps i (long ps), p.1 ≠ [] ∧ p.2 ≠ 0 := tb
  have td : ∀ p ∈ KM.part (tidy qs) i (long ps), p.1 ≠ [] ∧ p.2 ≠ 0 := td
  generalize KM.part ps 0 i = P1 at *
  generalize KM.part ps i (long ps) = P2 at *
  generalize KM.part (tidy qs) i (long ps) = P3 at *
  refine ⟨_, rfl, _, rfl, pa, xc, P1, as, 200, rfl, ka, kd, oka, okc.le (by decide), by decide, ta, ty_ne tyc, fun H4 s4 => ?_⟩
  rw [decide_eq_true (wA.trans ewc.symm)]
  refine ⟨_, _, rfl, rfl, false, rfl, iteF ?_⟩
  refine ⟨_, rfl, _, rfl, pb, pc, P2, P3, 200, rfl, kb.same s4, kc3.same s4, okb, okd, by decide, tb, td, fun H5 s5 => ?_⟩
  have e0 : WM.lcp (wr P2) (wr P3) = 0 := by
    rw [wB, wC]
    exact lcp_diff (A := []) h.cx
  rw [e0]
  refine ⟨rfl, false, congrArg V.bl (ne_no _), iteF ?_⟩
  have s45 := s4.trans s5
  refine ⟨_, rfl, _, rfl, pb, pc, P2, P3, 200, rfl, kb.same s45, kc3.same s45, okb, okd, by decide, tb, td, fun H6 s6 => ?_⟩
  have e1 : ord (wr P2) (wr P3) = ordL c x := by
    rw [wB, wC]
    exact ord_diff (A := []) h.cx
  rw [e1]
  refine ⟨_, rfl, rfl, false, congrArg V.bl (ne_no _), iteF ?_⟩
  rw [tnext_eq]
  have s06 := s03.trans (s45.trans s6)
  have h6 := h.same s06
  have low : ∀ p ∈ ps, Low p.1 := fun p hp => (h.okp.word p hp).2
  have lowq : ∀ p ∈ tidy qs, Low p.1 := fun p hp => (okt.word p hp).2
  refine ⟨_, rfl, o, dx, _, rfl, s06 _ _ ho, noP _ _, o, ps, rfl, h6.ko, fun u1 H7 s7 n7 P7 => ?_⟩
  refine ⟨_, rfl, .list (ps.map dPc), .list (ps.map dPc), dp_pcs P7, dp_pcs (pl.same (s06.trans s7)), shaped_pcs low, shaped_pcs low, ?_⟩
  rw [SeqAt.eqv_refl _ (SeqAt.canLay_of_shaped (shaped_pcs low))]
  refine ⟨true, rfl, iteT ?_⟩
  have h7 := h6.same s7
  obtain ⟨dy, l1, e1, hx, _, _⟩ := id h7.kx
  refine ⟨_, rfl, xa, dy, _, rfl, hx, noP _ _, xa, tidy qs, rfl, h7.kx, fun u2 H8 s8 n8 P8 => ?_⟩
  have s08 := (s06.trans s7).trans s8
  refine ⟨_, rfl, m, qs, 100, rfl, pm.same s08, h.okq, by decide, fun u3 H9 s9 n9 P9 => ?_⟩
  refine ⟨.list ((tidy qs).map dPc), .list ((tidy qs).map dPc), dp_pcs (P8.same s9), dp_pcs P9, shaped_pcs lowq, shaped_pcs lowq, ?_⟩
  rw [SeqAt.eqv_refl _ (SeqAt.canLay_of_shaped (shaped_pcs lowq))]
  exact q H9 (s08.trans s9)
theorem changed_eight (T : Txt K mg C) (f0 : Addr) (cdv : Value) (A : Around) (outer : List Env) (s0 : Shared) (H0 : Hp) (E : XK) (hr : Room 11 (A.deeper (envOfC "_law_changed_right" (C8.fnScope (topS 58)) s0.heap.objs.size f0 cdv))) :
    ∃ u, PSs (cxOf C8.CX0 P w K mg base ["_law_generator_here", "_law_one", "_law_pieces_here", "_law_letters_here", "_law_at", "_law_old", "_law_long_here", "_law_letter_here", "_law_new", "_law_ahead", "_law_behind", "_law_made", "_law_other", "_law_due", "_law_cut", "_law_left", "_law_right", "_law_against"] "_law_changed_right" (C8.fnScope (topS 58)) f0 cdv A outer s0 H0 E).nox ((C8.fnBody (topS 58)).drop 8) u ∧
      ∀ (Dn : Ends) (H : Hp) (o l m xa xc : Addr) (ps qs as : List Pc) (i c x : Nat) (v0 v3 v5 v7 v8 v9 v10 : Option V), TwoW C H o xa ps qs i c x → PL H l ps → PL H m qs → KW C H xc as → OK 100 as → Ty as → wr as = (wr ps).take i →
        (∀ H', Same H H' → Dn.rt (.bl true) H') →
        u Dn [v0, some (.ref o), some (.ref l), v3, some (.int i), v5, some (.int (long ps : Nat)), v7, v8, v9, v10, some (.ref m), some (.ref xa), some (.int (ordL c x)), some (.ref xc), none, none, none] H := by
  obtain ⟨u, hu, tail⟩ := changed_ten T f0 cdv A outer s0 H0 E hr
  refine ⟨_, (pss_cons (ps_if (PW.pt (pw_or (pt_cmpR op_ne (C8.pe_c (c_agree T) hr (by decide) (by rfl) (pa_cons (pv 1) (pa_cons (pv 14) pa_nil))) (pv 4) (nomark _)) (pw_or (pt_cmpR op_ne (C8.pe_c (c_agree T) hr (by decide) (by rfl) (pa_cons (pv 14) (pa_cons (pv 1) pa_nil))) (pv 4) (nomark _)) (pw_or (pt_cmpR op_ne (C8.pe_c (c_compare T) hr (by decide) (by rfl) (pa_cons (pv 14) (pa_cons (pv 1) pa_nil))) (pe_un un_neg pe_int) (nomark _)) (pw_or1 (pt_cmpR op_ne (C8.pe_c (c_compare T) hr (by decide) (by rfl) (pa_cons (pv 1) (pa_cons (pv 14) pa_nil))) pe_int (nomark _)))))))
    (pss_one (ps_ret pe_bl))
    pss_nil)
    (pss_cons (ps_if (PW.pt (pw_or (pt_cmpR op_notBl (C8.pe_c (c_same_kept T) hr (by decide) (by rfl) (pa_cons (pv 14) (pa_cons (pv 1) pa_nil))) pe_bl (nomark _)) (pw_or (pt_cmpR op_ne (C8.pe_c (c_agree T) hr (by decide) (by rfl) (pa_cons (pv 14) (pa_cons (pv 12) pa_nil))) (pv 4) (nomark _)) (pw_or1 (pt_cmpR op_ne (C8.pe_c (c_compare T) hr (by decide) (by rfl) (pa_cons (pv 14) (pa_cons (pv 12) pa_nil))) (pe_un un_neg pe_int) (nomark _))))))
    (pss_one (ps_ret pe_bl))
    pss_nil)
    hu)), ?_⟩
  intro Dn H o l m xa xc ps qs as i c x v0 v3 v5 v7 v8 v9 v10 h pl pm kc okc tyc ewc q
  have okt := h.okq.tidy
  have tp := ty_ne h.ty
  have tq := ty_ne (ty_tidy qs)
  have tc := ty_ne tyc
  have okp := h.okp.le (m := 100) (by decide)
  have dW := word_at h.hc
  have lA := h.lenA
  have nB : c :: (wr ps).drop (i + 1) ≠ [] := fun z => by cases z
  have nX : x :: (wr ps).drop (i + 1) ≠ [] := fun z => by cases z
  have a1 : WM.lcp (wr ps) (wr as) = i := by
    rw [ewc]
    conv => lhs; arg 1; rw [dW]
    rw [lcp_pre', lA]
  have a2 : WM.lcp (wr as) (wr ps) = i := by
    rw [ewc]
    conv => lhs; arg 2; rw [dW]
    rw [lcp_pre, lA]
  have a3 : ord (wr as) (wr ps) = -1 := by
    rw [ewc]
    conv => lhs; arg 2; rw [dW]
    exact ord_pre nB
  have a4 : ord (wr ps) (wr as) = 1 := by
    rw [ewc]
    conv => lhs; arg 1; rw [dW]
    exact ord_pre' nB
  have a5 : wr as ≠ wr ps := fun z => by
    rw [z, ord_same] at a3
    cases a3
  have a6 : WM.lcp (wr as) (wr (tidy qs)) = i := by rw [ewc, wr_tidy, h.ewq, lcp_pre, lA]
  have a7 : ord (wr as) (wr (tidy qs)) = -1 := by rw [ewc, wr_tidy, h.ewq]; exact ord_pre nX
  refine ⟨_, rfl, _, rfl, o, xc, ps, as, 100, rfl, h.ko, kc, okp, okc, by decide, tp, tc, fun H1 s1 => ?_⟩
  rw [a1]
  refine ⟨_, rfl, rfl, false, congrArg V.bl (ne_no _), iteF ?_⟩
  refine ⟨_, rfl, _, rfl, xc, o, as, ps, 100, rfl, kc.same s1, h.ko.same s1, okc, okp, by decide, tc, tp, fun H2 s2 => ?_⟩
  rw [a2]
  refine ⟨_, rfl, rfl, false, congrArg V.bl (ne_no _), iteF ?_⟩
  have s02 := s1.trans s2
  refine ⟨_, rfl, _, rfl, xc, o, as, ps, 100, rfl, kc.same s02, h.ko.same s02, okc, okp, by decide, tc, tp, fun H3 s3 => ?_⟩
  rw [a3]
  refine ⟨_, rfl, rfl, false, congrArg V.bl (ne_no _), iteF ?_⟩
  have s03 := s02.trans s3
  refine ⟨_, rfl, _, rfl, o, xc, ps, as, 100, rfl, h.ko.same s03, kc.same s03, okp, okc, by decide, tp, tc, fun H4 s4 => ?_⟩
  rw [a4]
  refine ⟨rfl, false, congrArg V.bl (ne_no _), iteF ?_⟩
  rw [tnext_eq]
  have s04 := s03.trans s4
  refine ⟨_, rfl, _, rfl, xc, o, as, ps, 100, rfl, kc.same s04, h.ko.same s04, okc, okp, by decide, tc, tp, fun H5 s5 => ?_⟩
  rw [decide_eq_false a5]
  refine ⟨_, _, rfl, rfl, false, rfl, iteF ?_⟩
  have s05 := s04.trans s5
  refine ⟨_, rfl, _, rfl, xc, xa, as, tidy qs, 100, rfl, kc.same s05, h.kx.same s05, okc, okt, by decide, tc, tq, fun H6 s6 => ?_⟩
  rw [a6]
  refine ⟨_, rfl, rfl, false, congrArg V.bl (ne_no _), iteF ?_⟩
  have s06 := s05.trans s6
  refine ⟨_, rfl, _, rfl, xc, xa, as, tidy qs, 100, rfl, kc.same s06, h.kx.same s06, okc, okt, by decide, tc, tq, fun H7 s7 => ?_⟩
  rw [a7]
  refine ⟨_, rfl, rfl, false, congrArg V.bl (ne_no _), iteF ?_⟩
  rw [tnext_eq]
  have s07 := s06.trans s7
  exact tail _ H7 o l m xa xc ps qs as i c x v0 v3 v5 v7 v8 v9 v10 (h.same s07) (pl.same s07) (pm.same s07) (kc.same s07) okc tyc ewc fun H8 s8 => q H8 (s07.trans s8)
end
end K04K

set_option Elab.async false
set_option linter.all false
set_option maxRecDepth 100000
set_option maxHeartbeats 8000000
set_option exponentiation.threshold 1000
namespace K04K
open K04 PySem PySem.Spec PyProof.Rows L2 CK SX KM
section
variable {P : Program} {w : World} {K : PySem.W.Frag} {mg : Str → Option Value} {base : Heap} {C : Addr}
theorem changed_five (T : Txt K mg C) (f0 : Addr) (cdv : Value) (A : Around) (outer : List Env) (s0 : Shared) (H0 : Hp) (E : XK) (hr : Room 11 (A.deeper (envOfC "_law_changed_right" (C8.fnScope (topS 58)) s0.heap.objs.size f0 cdv))) :
    ∃ u, PSs (cxOf C8.CX0 P w K mg base ["_law_generator_here", "_law_one", "_law_pieces_here", "_law_letters_here", "_law_at", "_law_old", "_law_long_here", "_law_letter_here", "_law_new", "_law_ahead", "_law_behind", "_law_made", "_law_other", "_law_due", "_law_cut", "_law_left", "_law_right", "_law_against"] "_law_changed_right" (C8.fnScope (topS 58)) f0 cdv A outer s0 H0 E).nox ((C8.fnBody (topS 58)).drop 5) u ∧
      ∀ (Dn : Ends) (H : Hp) (g o l la m xa : Addr) (ps qs as : List Pc) (i c x n t : Nat) (v3 v5 v7 v8 v10 : Option V), TwoW C H o xa ps qs i c x → KG C g H o ps → KG C g H xa (tidy qs) → PL H l ps → PL H m qs → PL H la as → SB 20 4 200 t as → t < 2 ^ 170 → wr as = (wr ps).take i → Gn (n + 200) H g →
        (∀ H', SameX g H H' → Gn n H' g → Dn.rt (.bl true) H') →
        u Dn [some (.ref g), some (.ref o), some (.ref l), v3, some (.int i), v5, some (.int (long ps : Nat)), v7, v8, some (.ref la), v10, some (.ref m), some (.ref xa), some (.int (ordL c x)), none, none, none, none] H := by
  obtain ⟨u, hu, tail⟩ := changed_eight T f0 cdv A outer s0 H0 E hr
  refine ⟨_, (pss_cons (ps_if (PW.pt (pw_or (pt_cmpR op_ne (C8.pe_c (c_agree T) hr (by decide) (by rfl) (pa_cons (pv 1) (pa_cons (pv 12) pa_nil))) (pv 4) (nomark _)) (pw_or (pt_cmpR op_ne (C8.pe_c (c_agree T) hr (by decide) (by rfl) (pa_cons (pv 12) (pa_cons (pv 1) pa_nil))) (pv 4) (nomark _)) (pw_or1 (pt_cmpR op_notBl (C8.pe_c (c_same_kept T) hr (by decide) (by rfl) (pa_cons (pv 1) (pa_cons (pv 12) pa_nil))) pe_bl (nomark _))))))
    (pss_one (ps_ret pe_bl))
    pss_nil)
    (pss_cons (ps_if (PW.pt (pw_or (pt_cmpR op_ne (C8.pe_c (c_compare T) hr (by decide) (by rfl) (pa_cons (pv 1) (pa_cons (pv 12) pa_nil))) (pv 13) (nomark _)) (pw_or1 (pt_cmpR op_ne (C8.pe_c (c_compare T) hr (by decide) (by rfl) (pa_cons (pv 12) (pa_cons (pv 1) pa_nil))) (pe_op op_sub pe_int (pv 13)) (nomark _)))))
    (pss_one (ps_ret pe_bl))
    pss_nil)
    (pss_cons (ps_set (i := 14) sc_law_changed_right.nd rfl (Or.inl rfl) (C8.pe_mk (n_KeptWord T) hr (by decide) (by rfl) (pa_cons (C8.pe_c (c_law_spelled T) hr (by decide) (by rfl) (pa_cons (pv 0) (pa_cons (pv 9) pa_nil))) pa_nil)))
    hu))), ?_⟩
  intro Dn H g o l la m xa ps qs as i c x n t v3 v5 v7 v8 v10 h gko gkx pl pm pa sba ht ewa G q
  have okt := h.okq.tidy
  have tp := ty_ne h.ty
  have tq := ty_ne (ty_tidy qs)
  have okp := h.okp.le (m := 100) (by decide)
  have dW := word_at h.hc
  have lA := h.lenA
  have a1 : WM.lcp (wr ps) (wr (tidy qs)) = i := by
    rw [wr_tidy, h.ewq]
    conv => lhs; arg 1; rw [dW]
    rw [lcp_diff h.cx, lA]
  have a2 : WM.lcp (wr (tidy qs)) (wr ps) = i := by
    rw [wr_tidy, h.ewq]
    conv => lhs; arg 2; rw [dW]
    rw [lcp_diff (fun z => h.cx z.symm), lA]
  have a4 : ord (wr ps) (wr (tidy qs)) = ordL c x := by
    rw [wr_tidy, h.ewq]
    conv => lhs; arg 1; rw [dW]
    exact ord_diff h.cx
  have a5 : ord (wr (tidy qs)) (wr ps) = 0 - ordL c x := by
    rw [wr_tidy, h.ewq]
    conv => lhs; arg 2; rw [dW]
    rw [ord_diff (fun z => h.cx z.symm), ordL_swap h.cx]
  have a3 : wr ps ≠ wr (tidy qs) := fun z => by
    have := h.hi
    rw [← z, lcp_same, wr_len] at a1
    omega
  refine ⟨_, rfl, _, rfl, o, xa, ps, tidy qs, 100, rfl, h.ko, h.kx, okp, okt, by decide, tp, tq, fun H1 s1 => ?_⟩
  rw [a1]
  refine ⟨_, rfl, rfl, false, congrArg V.bl (ne_no _), iteF ?_⟩
  refine ⟨_, rfl, _, rfl, xa, o, tidy qs, ps, 100, rfl, h.kx.same s1, h.ko.same s1, okt, okp, by decide, tq, tp, fun H2 s2 => ?_⟩
  rw [a2]
  refine ⟨_, rfl, rfl, false, congrArg V.bl (ne_no _), iteF ?_⟩
  have s02 := s1.trans s2
  refine ⟨_, rfl, _, rfl, o, xa, ps, tidy qs, 100, rfl, h.ko.same s02, h.kx.same s02, okp, okt, by decide, tp, tq, fun H3 s3 => ?_⟩
  rw [decide_eq_false a3]
  refine ⟨_, _, rfl, rfl, false, rfl, iteF ?_⟩
  rw [tnext_eq]
  have s03 := s02.trans s3
  refine ⟨_, rfl, _, rfl, o, xa, ps, tidy qs, 100, rfl, h.ko.same s03, h.kx.same s03, okp, okt, by decide, tp, tq, fun H4 s4 => ?_⟩
  rw [a4]
  refine ⟨_, rfl, rfl, false, congrArg V.bl (ne_no _), iteF ?_⟩
  have s04 := s03.trans s4
  refine ⟨_, rfl, _, rfl, xa, o, tidy qs, ps, 100, rfl, h.kx.same s04, h.ko.same s04, okt, okp, by decide, tq, tp, fun H5 s5 => ?_⟩
  rw [a5]
  refine ⟨_, rfl, _, _, rfl, rfl, rfl, false, congrArg V.bl (ne_no _), iteF ?_⟩
  rw [tnext_eq]
  have s05 := s04.trans s5
  have G5 := G.same s05
  refine ⟨_, rfl, _, rfl, g, la, as, 20, 4, 200, t, n, rfl, pa.same s05, sba, by decide, by decide, by omega, G5, fun lb bs H6 s6 G6 n6 P6 sbb ewb => ?_⟩
  have s06 := (SameX.of s05).trans s6
  have okb : OK 100 bs := sbb.ok (by decide) (by decide) (by decide) (by omega)
  intro xc dxc nxc ndxc nexc
  refine mk_kept nxc ndxc nexc P6 okb (by decide) fun H7 s7 kf7 => ?_
  have s07 := s06.trans (.of s7)
  refine ⟨rfl, tail _ H7 o l m xa xc ps qs (tidy bs) i c x _ _ _ _ _ _ _ ⟨(gko.sameX G s07).kw, (gkx.sameX G s07).kw, h.okp, h.okq, h.ty, h.hc, h.ewq, h.cx⟩ (pl.sameX G s07) (pm.sameX G s07) kf7.kw okb.tidy (ty_tidy _) (by rw [wr_tidy, ewb, ewa]) fun H8 s8 => q H8 (s07.trans (.of s8)) ((G6.same s7).same s8)⟩
end
end K04K

set_option Elab.async false
set_option linter.all false
set_option maxRecDepth 100000
set_option maxHeartbeats 8000000
set_option exponentiation.threshold 1000
namespace K04K
open K04 PySem PySem.Spec PyProof.Rows L2 CK SX KM
section
variable {P : Program} {w : World} {K : PySem.W.Frag} {mg : Str → Option Value} {base : Heap} {C : Addr}
def sp_changed (C : Addr) : Sp := fun vs H Q _ => ∃ (g o l lc : Addr) (ps : List Pc) (cs : List Nat) (i n t : Nat), vs = [.ref g, .ref o, .ref l, .ref lc, .int i] ∧ KG C g H o ps ∧ PL H l ps ∧ LT H lc cs ∧ lc ≠ g ∧ Dist cs ∧ SB 10 4 100 t ps ∧ t < 2 ^ 150 ∧ Ty ps ∧ i < long ps ∧ long ps < 2 ^ 190 ∧ Gn (n + 2000) H g ∧
  ∀ H', SameX g H H' → Gn n H' g → Q (.bl true) H'
theorem c_law_changed_right (T : Txt K mg C) : C8.Cal P w K mg base 12 "_law_changed_right" (sp_changed C) [] := by
  refine calF T.d_law_changed_right sc_law_changed_right (fun vs H Q E h => ?_) (fun f0 cdv A outer s0 H vs Q E hr h => ?_)
  · obtain ⟨_, _, _, _, _, _, _, _, _, rfl, _⟩ := h; rfl
  · obtain ⟨g, o, l, lc, ps, cs, i, n, t, rfl, ko, pl, lt, lcg, dist, sb, ht, ty, hi, hl, G, q⟩ := h
    obtain ⟨u, hu, tail⟩ := changed_five T f0 cdv A outer s0 H E hr
    refine ⟨_, (pss_cons (ps_asg (pe_tup (pa_cons (C8.pe_c (c_law_letter T) hr (by decide) (by rfl) (pa_cons (pv 2) (pa_cons (pv 4) pa_nil))) (pa_cons (C8.pe_c (c_law_long T) hr (by decide) (by rfl) (pa_cons (pv 2) pa_nil)) pa_nil))) (pg_two (K := K) (i := 5) (j := 6) rfl rfl sc_law_changed_right.nd rfl rfl (Or.inr rfl) (Or.inl rfl)))
    (pss_cons (ps_set (i := 7) sc_law_changed_right.nd rfl (Or.inl rfl) (pe_ix ix_list (pe_lc (own := [("_law_new", 8)]) (by rfl) sc_law_changed_right.nd (pi_list (pv 3)) (blkOk_by (N := ["_law_generator_here", "_law_one", "_law_pieces_here", "_law_letters_here", "_law_at", "_law_old", "_law_long_here", "_law_letter_here", "_law_new", "_law_ahead", "_law_behind", "_law_made", "_law_other", "_law_due", "_law_cut", "_law_left", "_law_right", "_law_against"]) (sc := C8.fnScope (topS 58)) (own := [("_law_new", 8)]) (by decide +kernel)) (fun _ _ _ _ _ => (pg_name (i := 8) sc_law_changed_right.nd rfl (Or.inl rfl))) (fun _ _ _ _ _ => (pts_one (pt_cmpR op_ne (pv 8) (pv 5) (nomark _)))) (fun _ _ _ _ _ => (pv 8))) (C8.pe_c (c_law_random T) hr (by decide) (by rfl) (pa_cons (pv 0) (pa_cons pe_int pa_nil))) (fun _ _ => rfl)))
    (pss_cons (ps_par (i := 9) (j := 10) (by rfl) sc_law_changed_right.nd rfl rfl (by decide) rfl rfl (pa_cons (C8.pe_c (c_law_part T) hr (by decide) (by rfl) (pa_cons (pv 2) (pa_cons pe_int (pa_cons (pv 4) pa_nil)))) (pa_cons (C8.pe_c (c_law_part T) hr (by decide) (by rfl) (pa_cons (pv 2) (pa_cons (pe_op op_add (pv 4) pe_int) (pa_cons (pv 6) pa_nil)))) pa_nil)) (by rfl))
    (pss_cons (ps_set (i := 11) sc_law_changed_right.nd rfl (Or.inl rfl) (pe_op op_cat (pe_op op_cat (C8.pe_c (c_law_spelled T) hr (by decide) (by rfl) (pa_cons (pv 0) (pa_cons (pv 9) pa_nil))) (pe_lst (pa_cons (pe_tup (pa_cons (pv 7) (pa_cons pe_int pa_nil))) pa_nil))) (C8.pe_c (c_law_spelled T) hr (by decide) (by rfl) (pa_cons (pv 0) (pa_cons (pv 10) pa_nil)))))
    (pss_cons (ps_par (i := 12) (j := 13) (by rfl) sc_law_changed_right.nd rfl rfl (by decide) rfl rfl (pa_cons (C8.pe_mk (n_KeptWord T) hr (by decide) (by rfl) (pa_cons (pe_callTy call_list_of (by rfl) T.m_list (by decide +kernel) (pa_cons (pv 11) pa_nil)) pa_nil)) (pa_cons (pe_ifExp (pt_cmpR op_lt_str (pv 5) (pv 7) (nomark _)) (pe_un un_neg pe_int) pe_int) pa_nil)) (by rfl))
    hu))))), ?_⟩
    have ok : OK 20 ps := sb.ok (by decide) (by decide) (by decide) (by omega)
    obtain ⟨c, hc⟩ : ∃ c, (wr ps)[i]? = some c := ⟨_, List.getElem?_eq_getElem (by rw [wr_len]; exact hi)⟩
    refine ⟨_, rfl, _, rfl, l, ps, 20, i, c, rfl, pl, ok, by decide, hc, _, rfl, l, ps, 20, rfl, pl, ok, by decide, fun H1 s1 => ⟨by show 2 ≤ sizeLine; decide, fun t1 nt1 => ?_⟩⟩
    have st1 := sameNew (o := .tup [.str (S [c]), .int (long ps : Nat)]) nt1
    refine ⟨t1, _, rfl, .inl (.inl upd_same), rfl, _, _, rfl, _, _, rfl, rfl, ?_⟩
    have s01 := s1.trans st1
    generalize upd H1 t1 (.tup [.str (S [c]), .int (long ps : Nat)]) = H2 at *
    have hlc := s01 _ _ lt.1
    refine ⟨_, rfl, lc, rfl, ⟨_, .inl (.inl hlc)⟩, fun D hD => ?_⟩
    have key : ∀ x : Nat, decide (V.str (S [x]) = V.str (S [c])) = decide (x = c) := fun x => decide_eq_decide.mpr ⟨fun e => by
      have := S_inj (V.str.inj e)
      simpa using this, fun e => by rw [e]⟩
    refine lcL_filt (K := K) (a := lc) (xs := cs.map fun x => V.str (S [x])) (fun j => decide (cs.getD j 0 ≠ c)) (fun j => .str (S [cs.getD j 0])) (fun H' s => .inl (.inl (s _ _ hlc))) (small1000 (by rw [List.length_map, lt.2.1]; decide)) (fun j z H4 R R0 hz s4 q1 q0 => ?_) hD fun H4 s4 hE => ?_
    · have ez : z = .str (S [cs.getD j 0]) := by
        rw [List.getElem?_map] at hz
        cases e : cs[j]? with
        | none => rw [e] at hz; cases hz
        | some x =>
          rw [e] at hz
          rw [List.getD_eq_getElem?_getD, e]
          exact (Option.some.inj hz).symm
      subst ez
      refine ⟨rfl, _, rfl, _, rfl, rfl, _, rfl, ?_⟩
      rw [key]
      by_cases z : cs.getD j 0 = c
      · rw [decide_eq_true z]
        exact iteF (q0 (decide_eq_false fun y => y z) _ (Same.refl _))
      · rw [decide_eq_false z]
        exact iteT ⟨_, rfl, q1 (decide_eq_true z) _ (Same.refl _)⟩
    have G4 : Gn (n + 2000) H4 g := (G.same s01).same s4
    have two : ∀ k : Nat, k < 2 → ∃ x, (((List.range (cs.map fun x => V.str (S [x])).length).filter fun j => decide (cs.getD j 0 ≠ c)).map fun j => V.str (S [cs.getD j 0]))[k]? = some (V.str (S [x])) ∧ x ≠ c ∧ 97 ≤ x ∧ x ≤ 122 := fun k hk => by
      have len2 : 2 ≤ ((List.range (cs.map fun x => V.str (S [x])).length).filter fun j => decide (cs.getD j 0 ≠ c)).length := by
        obtain ⟨a, b, d, rfl, ab, ad, bd⟩ := dist
        show 2 ≤ (([0, 1, 2] : List Nat).filter fun j => decide ([a, b, d].getD j 0 ≠ c)).length
        by_cases z1 : a = c
        · by_cases z2 : b = c
          · exact absurd (z1.trans z2.symm) ab
          · by_cases z3 : d = c
            · exact absurd (z1.trans z3.symm) ad
            · simp [List.filter_cons, z1, z2, z3]
        · by_cases z2 : b = c
          · by_cases z3 : d = c
            · exact absurd (z2.trans z3.symm) bd
            · simp [List.filter_cons, z1, z2, z3]
          · by_cases z3 : d = c
            · simp [List.filter_cons, z1, z2, z3]
            · simp [List.filter_cons, z1, z2, z3]
      have hk2 : k < ((List.range (cs.map fun x => V.str (S [x])).length).filter fun j => decide (cs.getD j 0 ≠ c)).length := by omega
      have mem := List.getElem_mem hk2
      obtain ⟨m1, m2⟩ := List.mem_filter.mp mem
      have m3 := of_decide_eq_true m2
      have m4 := Nat.lt_of_lt_of_le (List.mem_range.mp m1) (Nat.le_of_eq (List.length_map (as := cs) (fun x => V.str (S [x]))))
      refine ⟨cs.getD _ 0, by rw [List.getElem?_map, List.getElem?_eq_getElem hk2]; rfl, m3, ?_⟩
      rw [List.getD_eq_getElem?_getD, List.getElem?_eq_getElem m4]
      exact lt.2.2 _ (List.getElem_mem m4)
    refine ⟨_, rfl, g, 2, n + 1990, rfl, G4.le (by omega), by decide, by decide, fun r H5 s5 G5 r0 r1 => ?_⟩
    obtain ⟨rk, rfl⟩ : ∃ k : Nat, r = k := ⟨r.toNat, by omega⟩
    obtain ⟨x, hx, xc, x1, x2⟩ := two rk (by omega)
    have Dg : D ≠ g := (G.same s01).ne hD
    refine ⟨D, _, (rk : Int), .str (S [x]), rfl, rfl, .inl (.inl (s5 _ _ Dg hE)), atI_nat hx, ?_⟩
    have s05 : SameX g H H5 := (SameX.of (s01.trans s4)).trans s5
    have pl5 := pl.sameX G s05
    have ko5 := ko.sameX G s05
    have ne : ∀ p ∈ ps, p.1 ≠ [] := fun p hp => (ty.all p hp).1
    refine ⟨_, rfl, _, rfl, l, ps, 20, 0, i, rfl, pl5, ok, by decide, ne, Nat.zero_le _, fun ra H6 s6 n6 P6 => ?_⟩
    refine ⟨_, rfl, _, rfl, _, _, rfl, rfl, _, rfl, l, ps, 20, i + 1, long ps, rfl, pl5.same s6, ok, by decide, ne, hi, fun rb H7 s7 n7 P7 => ⟨_, _, rfl, ?_⟩⟩
    have s57 := s6.trans s7
    have P6 := P6.same s7
    have pl7 := pl5.same s57
    have G7 := G5.same s57
    have ko7 := ko5.sameX G5 (.of s57)
    have s07 := s05.trans (.of s57)
    have sA : SB 20 4 200 (t + 10) (KM.part ps 0 i) := sb.part ne
    have sB : SB 20 4 200 (t + 10) (KM.part ps (i + 1) (long ps)) := sb.part ne
    have wA : wr (KM.part ps 0 i) = (wr ps).take i := by rw [wr_part ne]; rfl
    have wB : wr (KM.part ps (i + 1) (long ps)) = (wr ps).drop (i + 1) := by rw [wr_part ne, ← wr_len, List.take_length]
    generalize KM.part ps 0 i = as at P6 sA wA
    generalize KM.part ps (i + 1) (long ps) = bs at P7 sB wB
    clear s57 s7 s6 n6 n7 hE two
    refine ⟨_, rfl, _, rfl, g, ra, as, 20, 4, 200, t + 10, n + 1500, rfl, P6, sA, by decide, by decide, by omega, G7.le (by omega), fun ma qa H8 s8 G8 n8 Pa SBa ewa => ?_⟩
    refine ⟨_, rfl, by show 2 ≤ sizeLine; decide, fun tx ntx => ⟨by show 1 ≤ sizeLine; decide, fun lx nlx => ?_⟩⟩
    have stx := sameNew (o := .tup [.str (S [x]), .int 1]) ntx
    have slx := sameNew (o := .lst [.ref tx]) nlx
    have sx := stx.trans slx
    obtain ⟨ua, hua, pua⟩ := id Pa
    have la := pua.len
    have la2 := SBa.len
    refine ⟨ma, lx, _, _, rfl, rfl, sx _ _ hua, upd_same, by rw [sizeLine_eq]; simp; omega, fun m1 nm1 => ?_⟩
    have sm1 := sameNew (o := .lst (ua ++ [.ref tx])) nm1
    have sx1 := sx.trans sm1
    have Pm1 : PL _ m1 (qa ++ [([x], 1)]) := ⟨_, upd_same, (pua.same sx1).app (.one ((slx.trans sm1) _ _ upd_same))⟩
    have G9 := G8.same sx1
    have P78 := (P7.sameX G7 s8).same sx1
    have s7m : SameX g H7 _ := s8.trans (.of sx1)
    generalize upd _ m1 (.lst (ua ++ [.ref tx])) = H9 at Pm1 G9 P78 s7m ⊢
    refine ⟨_, rfl, _, rfl, g, rb, bs, 20, 4, 200, t + 10, n + 1200, rfl, P78, sB, by decide, by decide, by omega, G9.le (by omega), fun mb qb HA sA' GA nA Pb SBb ewb => ?_⟩
    have m1g : m1 ≠ g := Pm1.ne G9
    have Pm1 := Pm1.sameX G9 sA'
    obtain ⟨um, hum, pum⟩ := id Pm1
    obtain ⟨ub, hub, pub⟩ := id Pb
    have lm := pum.len
    have lb := pub.len
    have lb2 := SBb.len
    have lm2 : (qa ++ [([x], 1)]).length = qa.length + 1 := by simp
    refine ⟨m1, mb, _, _, rfl, rfl, hum, hub, by rw [sizeLine_eq]; omega, fun m2 nm2 => ?_⟩
    have sm2 := sameNew (o := .lst (um ++ ub)) nm2
    have Pm2 : PL (upd HA m2 (.lst (um ++ ub))) m2 (qa ++ [([x], 1)] ++ qb) := ⟨_, upd_same, (pum.same sm2).app (pub.same sm2)⟩
    have ewm : wr (qa ++ [([x], 1)] ++ qb) = (wr ps).take i ++ x :: (wr ps).drop (i + 1) := by
      rw [wr_app, wr_app, ewa, ewb, wA, wB]
      show _ ++ ([x] ++ []) ++ _ = _
      simp
    have lowx : Low [x] := fun d hd => by rw [List.mem_singleton.mp hd]; exact ⟨x1, x2⟩
    have one : SB 1 128 1 1 [([x], 1)] := ⟨by simp, fun p hp => by rw [List.mem_singleton.mp hp]; exact ⟨by show 1 ≤ 128; decide, lowx⟩, by show 1 + 0 ≤ 1; decide, by show 1 + 0 ≤ 1; decide⟩
    have sbm : SB 71 128 897 (2 * t + 51) (qa ++ [([x], 1)] ++ qb) := (((SBa.app one).app SBb).le (by decide) (by decide) (by decide) (by omega))
    have okm : OK 100 (qa ++ [([x], 1)] ++ qb) := sbm.ok (by decide) (by decide) (by decide) (by omega)
    have GB := GA.same sm2
    have s7B : SameX g H7 (upd HA m2 (.lst (um ++ ub))) := s7m.trans (sA'.trans (.of sm2))
    have ko9 := ko7.sameX G7 s7B
    have pl9 := pl7.sameX G7 s7B
    have P69 := P6.sameX G7 s7B
    have s09 := s07.trans s7B
    generalize qa ++ [([x], 1)] ++ qb = qs at Pm2 ewm sbm okm
    generalize upd HA m2 (.lst (um ++ ub)) = HB at *
    -- the changed one (made: m2, qs; the word ewm; behind the letter as ps)
    obtain ⟨uq, huq, puq⟩ := id Pm2
    refine ⟨_, rfl, m2, uq, rfl, .inl (.inl (.inl huq)), fun L9 n9 => ?_⟩
    have s9 := sameNew (o := .lst uq) n9
    have P9 : PL (upd HB L9 (.lst uq)) L9 qs := ⟨uq, upd_same, puq.same s9⟩
    intro xa dxa nxa ndxa nexa
    refine mk_kept nxa ndxa nexa P9 okm (by decide) fun Ha sa kfa => ⟨rfl, ?_⟩
    have s0a := s9.trans sa
    have GH := GB.same s0a
    have kx : KG C g Ha xa (tidy qs) := kfa.kg (GB.same s9)
    have koA := ko9.sameX GB (.of s0a)
    have plA := pl9.same s0a
    have PmA := Pm2.same s0a
    have P6A := P69.same s0a
    have s0A := s09.trans (.of s0a)
    have cx : c ≠ x := fun z => xc z.symm
    refine ⟨_, rfl, _, rfl, _, _, rfl, rfl, _, rfl, ?_⟩
    have tw : TwoW C Ha o xa ps qs i c x := ⟨koA.kw, kx.kw, ok, okm, ty, hc, ewm, cx⟩
    have fin : ∀ d : Int, d = ordL c x → u { nx := fun x H' => Q V.non H', rt := Q } [some (.ref g), some (.ref o), some (.ref l), some (.ref lc), some (.int i), some (.str (S [c])), some (.int (long ps : Nat)), some (.str (S [x])), none, some (.ref ra), some (.ref rb), some (.ref m2), some (.ref xa), some (.int d), none, none, none, none] Ha := fun d ed => by
      rw [ed]
      exact tail _ Ha g o l ra m2 xa ps qs as i c x (n + 1000) (t + 10) _ _ _ _ _ tw koA kx plA PmA P6A sA (by omega) wA GH fun H' s' g' => q H' (s0A.trans s') (g'.le (by omega))
    refine ite2 (fun z => ?_) (fun z => ?_)
    · exact ⟨_, rfl, _, _, rfl, fin (-1) (if_pos z).symm⟩
    · exact ⟨_, _, rfl, fin 1 (if_neg z).symm⟩
end
end K04K

set_option Elab.async false
set_option linter.all false
set_option maxRecDepth 100000
set_option maxHeartbeats 8000000
set_option exponentiation.threshold 1000
namespace K04K
open K04 PySem PySem.Spec PyProof.Rows L2 CK SX KM
theorem lcp_below {a b : List Nat} {k : Nat} (h : k < WM.lcp a b) : ∃ c, a[k]? = some c ∧ b[k]? = some c := by
  have le := WM.lcp_le a b
  have t := WM.lcp_take a b _ (Nat.le_refl _)
  have g := congrArg (fun l : List Nat => l[k]?) t
  simp only [List.getElem?_take, if_pos h] at g
  have e : a[k]? = some a[k] := List.getElem?_eq_getElem (by omega)
  exact ⟨_, e, g ▸ e⟩
theorem lcp_at {a b : List Nat} (h1 : WM.lcp a b < a.length) (h2 : WM.lcp a b < b.length) : ∃ c d, a[WM.lcp a b]? = some c ∧ b[WM.lcp a b]? = some d ∧ c ≠ d := by
  refine ⟨_, _, List.getElem?_eq_getElem h1, List.getElem?_eq_getElem h2, fun z => ?_⟩
  have t := WM.lcp_take a b _ (Nat.le_refl _)
  have : WM.lcp a b + 1 ≤ WM.lcp a b := WM.le_lcp a b _ (by omega) (by omega) (by
    rw [List.take_succ, List.take_succ, t, List.getElem?_eq_getElem h1, List.getElem?_eq_getElem h2, z])
  omega
theorem lcp_swap : ∀ a b : List Nat, WM.lcp a b = WM.lcp b a
  | [], [] => rfl
  | [], _ :: _ => rfl
  | _ :: _, [] => rfl
  | x :: xs, y :: ys => by
    show (if x = y then WM.lcp xs ys + 1 else 0) = if y = x then WM.lcp ys xs + 1 else 0
    by_cases z : x = y
    · rw [if_pos z, if_pos z.symm, lcp_swap xs ys]
    · rw [if_neg z, if_neg fun e => z e.symm]
theorem ord_at {a b : List Nat} {c d : Nat} (h1 : a[WM.lcp a b]? = some c) (h2 : b[WM.lcp a b]? = some d) : ord a b = ordL c d := by
  have l1 := (List.getElem?_eq_some_iff.mp h1).1
  have l2 := (List.getElem?_eq_some_iff.mp h2).1
  unfold ord ordL
  rw [if_neg (by omega), List.getD_eq_getElem?_getD, List.getD_eq_getElem?_getD, h1, h2]
  rfl
theorem ord_end {a b : List Nat} (h : WM.lcp a b = min a.length b.length) : ord a b = if a.length = b.length then 0 else if a.length = min a.length b.length then -1 else 1 := by
  unfold ord
  rw [if_pos (by omega), h]
  by_cases z : a.length = b.length
  · rw [if_pos z, decide_eq_false (by omega), decide_eq_false (by omega)]
    rfl
  · rw [if_neg z]
    by_cases y : a.length = min a.length b.length
    · rw [if_pos y, decide_eq_false (by omega), decide_eq_true (by omega)]
      rfl
    · rw [if_neg y, decide_eq_true (by omega), decide_eq_false (by omega)]
      rfl
section
variable {P : Program} {w : World} {K : PySem.W.Frag} {mg : Str → Option Value} {base : Heap} {C : Addr}
theorem two_three (T : Txt K mg C) (f0 : Addr) (cdv : Value) (A : Around) (outer : List Env) (s0 : Shared) (H0 : Hp) (E : XK) (hr : Room 7 (A.deeper (envOfC "_law_two_right" (C8.fnScope (topS 59)) s0.heap.objs.size f0 cdv))) :
    ∃ u, PSs (cxOf C8.CX0 P w K mg base ["_law_generator_here", "_law_one", "_law_pieces_here", "_law_other", "_law_others", "_law_many", "_law_least", "_law_at", "_law_due"] "_law_two_right" (C8.fnScope (topS 59)) f0 cdv A outer s0 H0 E).nox ((C8.fnBody (topS 59)).drop 3) u ∧
      ∀ (Dn : Ends) (H : Hp) (g o l o2 l2 : Addr) (ps qs : List Pc) (M n : Nat), KG C g H o ps → KG C g H o2 qs → PL H l ps → PL H l2 qs → OK 100 ps → OK 100 qs → Ty ps → Ty qs → long ps < 2 ^ 190 → M = WM.lcp (wr ps) (wr qs) → Gn (n + 1) H g →
        (∀ H', SameX g H H' → Gn n H' g → Dn.rt (.bl true) H') →
        u Dn [some (.ref g), some (.ref o), some (.ref l), some (.ref o2), some (.ref l2), some (.int (M : Nat)), some (.int ((min (long ps) (long qs) : Nat))), none, none] H := by
  refine ⟨_, (pss_cons (ps_for PassesOwn.never rfl (pi_list (pe_lst (pa_cons pe_int (pa_cons pe_int (pa_cons pe_int (pa_cons pe_int (pa_cons (pe_op op_fdivW (pv 5) pe_int) (pa_cons (pe_op op_sub (pv 5) pe_int) (pa_cons (pe_op op_sub (pv 5) pe_int) (pa_cons (C8.pe_c (c_law_random T) hr (by decide) (by rfl) (pa_cons (pv 0) (pa_cons (pe_op op_add (pv 5) pe_int) pa_nil))) pa_nil)))))))))) (pg_name (i := 7) sc_law_two_right.nd rfl (Or.inl rfl))
    (pss_one (ps_if (PW.pt (pw_and (pt_cmpR op_le pe_int (pv 7) (nomark _)) (pw_and (pt_cmpR op_lt (pv 7) (pv 5) (nomark _)) (pw_and1 (pt_cmpR op_ne (C8.pe_c (c_law_letter T) hr (by decide) (by rfl) (pa_cons (pv 2) (pa_cons (pv 7) pa_nil))) (C8.pe_c (c_law_letter T) hr (by decide) (by rfl) (pa_cons (pv 4) (pa_cons (pv 7) pa_nil))) (nomark _))))))
    (pss_one (ps_ret pe_bl))
    pss_nil)))
    (pss_cons (ps_set (i := 8) sc_law_two_right.nd rfl (Or.inl rfl) (C8.pe_c (c_compare T) hr (by decide) (by rfl) (pa_cons (pv 1) (pa_cons (pv 3) pa_nil))))
    (pss_cons (ps_if (pt_cmpR op_lt (pv 5) (pv 6) (nomark _))
    (pss_one (ps_ret (pe_cmpR op_eq (pv 8) (pe_ifExp (pt_cmpR op_lt_str (C8.pe_c (c_law_letter T) hr (by decide) (by rfl) (pa_cons (pv 2) (pa_cons (pv 5) pa_nil))) (C8.pe_c (c_law_letter T) hr (by decide) (by rfl) (pa_cons (pv 4) (pa_cons (pv 5) pa_nil))) (nomark _)) (pe_un un_neg pe_int) pe_int) (nomark _))))
    pss_nil)
    (pss_one (ps_ret (pe_cmpR op_eq (pv 8) (pe_ifExp (pt_cmpR op_eq (C8.pe_c (c_law_long T) hr (by decide) (by rfl) (pa_cons (pv 2) pa_nil)) (C8.pe_c (c_law_long T) hr (by decide) (by rfl) (pa_cons (pv 4) pa_nil)) (nomark _)) pe_int (pe_ifExp (pt_cmpR op_eq (C8.pe_c (c_law_long T) hr (by decide) (by rfl) (pa_cons (pv 2) pa_nil)) (pv 6) (nomark _)) (pe_un un_neg pe_int) pe_int)) (nomark _))))))), ?_⟩
  intro Dn H g o l o2 l2 ps qs M n ko kx pl pl2 okp okq ty tyq hl eM G q
  have tp := ty_ne ty
  have tq := ty_ne tyq
  have wp : (wr ps).length = long ps := wr_len ps
  have wq : (wr qs).length = long qs := wr_len qs
  have lle := WM.lcp_le (wr ps) (wr qs)
  have below : ∀ k, k < WM.lcp (wr ps) (wr qs) → ∃ c, (wr ps)[k]? = some c ∧ (wr qs)[k]? = some c := fun k => lcp_below
  have atM : WM.lcp (wr ps) (wr qs) < min (long ps) (long qs) → ∃ c d, (wr ps)[WM.lcp (wr ps) (wr qs)]? = some c ∧ (wr qs)[WM.lcp (wr ps) (wr qs)]? = some d ∧ c ≠ d := fun k => lcp_at (by omega) (by omega)
  rw [← eM] at lle below atM
  have m190 : M < 2 ^ 190 := by omega
  have mb : ((M : Nat) : Int).natAbs < 2 ^ 200 := by rw [Int.natAbs_natCast]; omega
  refine ⟨_, rfl, _, _, rfl, rfl, wide_div (b := 200) (by decide) (by decide) (by decide) (by decide), _, rfl, _, _, rfl, rfl, _, rfl, _, _, rfl, rfl, _, rfl, _, rfl, _, _, rfl, rfl, g, _, n, rfl, G, by omega, by omega, fun r H1 s1 G1 r0 r1 => ⟨by show 8 ≤ sizeLine; decide, fun D nD => ?_⟩⟩
  obtain ⟨zs, ez⟩ : ∃ zs : List Int, zs = [0, 1, 2, 3, (M : Int) / 2, (M : Int) - 2, (M : Int) - 1, r] := ⟨_, rfl⟩
  have el : ([V.int 0, V.int 1, V.int 2, V.int 3, V.int ((M : Int) / 2), V.int ((M : Int) - 2), V.int ((M : Int) - 1), V.int r] : List V) = zs.map V.int := by rw [ez]; rfl
  have sD := sameNew (o := .lst [V.int 0, V.int 1, V.int 2, V.int 3, V.int ((M : Int) / 2), V.int ((M : Int) - 2), V.int ((M : Int) - 1), V.int r]) nD
  have hD : upd H1 D (.lst [V.int 0, V.int 1, V.int 2, V.int 3, V.int ((M : Int) / 2), V.int ((M : Int) - 2), V.int ((M : Int) - 1), V.int r]) D = some (.lst (zs.map V.int)) := by rw [← el]; exact upd_same
  have s2 := s1.trans (.of sD)
  have G2 := G1.same sD
  generalize upd H1 D (.lst [V.int 0, V.int 1, V.int 2, V.int 3, V.int ((M : Int) / 2), V.int ((M : Int) - 2), V.int ((M : Int) - 1), V.int r]) = H2 at sD hD s2 G2 ⊢
  have ko2 := ko.sameX G s2
  have kx2 := kx.sameX G s2
  have P2 := pl.sameX G s2
  have Q2 := pl2.sameX G s2
  refine ⟨D, rfl, ⟨_, .inl (.inl hD)⟩, ?_⟩
  refine for_it (walk_list (K := K) (a := D) (xs := zs.map V.int)) (fun i σ H' => H' = H2 ∧ ∃ y7, σ = [some (.ref g), some (.ref o), some (.ref l), some (.ref o2), some (.ref l2), some (.int (M : Nat)), some (.int ((min (long ps) (long qs) : Nat))), y7, none]) ⟨rfl, _, rfl⟩ (fun i σ H' _ p => by rw [p.1]; exact .inl (.inl hD)) (fun i v σ H' H'' hi p y => ?_) fun σ H' p => ?_
  · obtain ⟨rfl, y7, rfl⟩ := p
    obtain ⟨rfl, hx⟩ := y
    obtain ⟨z, _, _, rfl⟩ := get_int hx
    refine ⟨_, rfl, 0, z, rfl, rfl, _, rfl, ite2 (fun e => ?_) (fun e => ⟨rfl, _, rfl⟩)⟩
    refine ⟨_, rfl, _, rfl, z, _, rfl, rfl, _, rfl, ite2 (fun e2 => ?_) (fun e2 => ⟨rfl, _, rfl⟩)⟩
    obtain ⟨k, rfl⟩ : ∃ k : Nat, z = k := ⟨z.toNat, by have := of_decide_eq_true e; omega⟩
    obtain ⟨c, h1, h2⟩ := below k (by have := of_decide_eq_true e2; omega)
    refine ⟨_, rfl, _, rfl, l, ps, 100, k, c, rfl, P2, okp, by decide, h1, _, rfl, _, rfl, l2, qs, 100, k, c, rfl, Q2, okq, by decide, h2, rfl, false, congrArg V.bl (ne_no _), iteF ?_⟩
    exact ⟨rfl, _, rfl⟩
  · obtain ⟨rfl, y7, rfl⟩ := p
    refine ⟨_, rfl, _, rfl, o, o2, ps, qs, 100, rfl, ko2.kw, kx2.kw, okp, okq, by decide, tp, tq, fun H3 s3 => ?_⟩
    have P3 := P2.same s3
    have Q3 := Q2.same s3
    refine ⟨_, rfl, _, rfl, _, _, rfl, rfl, _, rfl, ite2 (fun e => ?_) (fun e => ?_)⟩
    · have lt := of_decide_eq_true e
      obtain ⟨c, d, h1, h2, ncd⟩ := atM (by omega)
      refine ⟨_, rfl, _, rfl, _, rfl, l, ps, 100, M, c, rfl, P3, okp, by decide, h1, _, rfl, _, rfl, l2, qs, 100, M, d, rfl, Q3, okq, by decide, h2, _, _, rfl, rfl, _, rfl, ?_⟩
      rw [eM] at h1 h2
      have eo : ord (wr ps) (wr qs) = ordL c d := ord_at h1 h2
      have fin : ∀ v : Int, v = ordL c d → rEq (V.int (ord (wr ps) (wr qs))) (V.int v) H3 Dn.rt := fun v ev => by
        refine ⟨rfl, ?_⟩
        rw [eo, ev, decide_eq_true rfl]
        exact q H3 (s2.trans (.of s3)) (G2.same s3)
      refine ite2 (fun z => ?_) (fun z => ?_)
      · exact ⟨_, rfl, fin (-1) (if_pos z).symm⟩
      · exact fin 1 (if_neg z).symm
    · have nlt : ¬ ((M : Nat) : Int) < ((min (long ps) (long qs) : Nat) : Int) := fun y => e (decide_eq_true y)
      have eo : ord (wr ps) (wr qs) = if long ps = long qs then 0 else if long ps = min (long ps) (long qs) then -1 else 1 := by
        rw [ord_end (by rw [← eM, wp, wq]; omega), wp, wq]
      have fin : ∀ v : Int, v = ord (wr ps) (wr qs) → ∀ H4, Same H3 H4 → rEq (V.int (ord (wr ps) (wr qs))) (V.int v) H4 Dn.rt := fun v ev H4 s4 => by
        refine ⟨rfl, ?_⟩
        rw [ev, decide_eq_true rfl]
        exact q H4 (s2.trans (.of (s3.trans s4))) (G2.same (s3.trans s4))
      rw [tnext_eq]
      refine ⟨_, rfl, _, rfl, l, ps, 100, rfl, P3, okp, by decide, fun H4 s4 => ?_⟩
      refine ⟨_, rfl, l2, qs, 100, rfl, Q3.same s4, okq, by decide, fun H5 s5 => ⟨rfl, _, rfl, ?_⟩⟩
      have s35 := s4.trans s5
      refine ite2 (fun z => ?_) (fun z => ?_)
      · have z' : long ps = long qs := by
          have := V.int.inj (of_decide_eq_true z)
          omega
        exact fin 0 (by rw [eo, if_pos z']) H5 s35
      · have z' : ¬ long ps = long qs := fun y => z (decide_eq_true (by rw [y]))
        refine ⟨_, rfl, l, ps, 100, rfl, P3.same s35, okp, by decide, fun H6 s6 => ⟨_, rfl, rfl, _, rfl, ?_⟩⟩
        refine ite2 (fun y => ?_) (fun y => ?_)
        · have y' : long ps = min (long ps) (long qs) := by
            have := V.int.inj (of_decide_eq_true y)
            omega
          exact ⟨_, rfl, fin (-1) (by rw [eo, if_neg z', if_pos y']) H6 (s35.trans s6)⟩
        · have y' : ¬ long ps = min (long ps) (long qs) := fun x => y (decide_eq_true (by rw [← x]))
          exact fin 1 (by rw [eo, if_neg z', if_neg y']) H6 (s35.trans s6)
def sp_two (C : Addr) : Sp := fun vs H Q _ => ∃ (g o l o2 l2 : Addr) (ps qs : List Pc) (n : Nat), vs = [.ref g, .ref o, .ref l, .ref o2, .ref l2] ∧ KG C g H o ps ∧ KG C g H o2 qs ∧ PL H l ps ∧ PL H l2 qs ∧ OK 100 ps ∧ OK 100 qs ∧ Ty ps ∧ Ty qs ∧ long ps < 2 ^ 190 ∧ Gn (n + 1) H g ∧
  ∀ H', SameX g H H' → Gn n H' g → Q (.bl true) H'
theorem c_law_two_right (T : Txt K mg C) : C8.Cal P w K mg base 8 "_law_two_right" (sp_two C) [] := by
  refine calF T.d_law_two_right sc_law_two_right (fun vs H Q E h => ?_) (fun f0 cdv A outer s0 H vs Q E hr h => ?_)
  · obtain ⟨_, _, _, _, _, _, _, _, rfl, _⟩ := h; rfl
  · obtain ⟨g, o, l, o2, l2, ps, qs, n, rfl, ko, kx, pl, pl2, okp, okq, ty, tyq, hl, G, q⟩ := h
    obtain ⟨u, hu, tail⟩ := two_three T f0 cdv A outer s0 H E hr
    refine ⟨_, (pss_cons (ps_par (i := 5) (j := 6) (by rfl) sc_law_two_right.nd rfl rfl (by decide) rfl rfl (pa_cons (C8.pe_c (c_agree T) hr (by decide) (by rfl) (pa_cons (pv 1) (pa_cons (pv 3) pa_nil))) (pa_cons (pe_callB (call_min2 rfl) (by rfl) T.m_min (by decide +kernel) (pa_cons (C8.pe_c (c_law_long T) hr (by decide) (by rfl) (pa_cons (pv 2) pa_nil)) (pa_cons (C8.pe_c (c_law_long T) hr (by decide) (by rfl) (pa_cons (pv 4) pa_nil)) pa_nil))) pa_nil)) (by rfl))
    (pss_cons (ps_if (PW.pt (pw_or (pt_val (pe_callB call_isK (by rfl) T.m_isinstance (by decide +kernel) (pa_cons (pv 5) (pa_cons (pe_bltn (v := .ty "bool") (by rfl) T.m_bool (by decide +kernel) rfl) pa_nil)))) (pw_or (pt_not (pt_val (pe_callB call_isK (by rfl) T.m_isinstance (by decide +kernel) (pa_cons (pv 5) (pa_cons (pe_bltn (v := .ty "int") (by rfl) T.m_int (by decide +kernel) rfl) pa_nil))))) (pw_or (pt_cmpR op_lt (pv 5) pe_int (nomark _)) (pw_or (pt_cmpR op_gt (pv 5) (pv 6) (nomark _)) (pw_or1 (pt_cmpR op_ne (C8.pe_c (c_agree T) hr (by decide) (by rfl) (pa_cons (pv 3) (pa_cons (pv 1) pa_nil))) (pv 5) (nomark _))))))))
    (pss_one (ps_ret pe_bl))
    pss_nil)
    (pss_cons (ps_if (PW.pt (pw_and (pt_cmpR op_lt (pv 5) (pv 6) (nomark _)) (pw_and1 (pt_cmpR op_eq (C8.pe_c (c_law_letter T) hr (by decide) (by rfl) (pa_cons (pv 2) (pa_cons (pv 5) pa_nil))) (C8.pe_c (c_law_letter T) hr (by decide) (by rfl) (pa_cons (pv 4) (pa_cons (pv 5) pa_nil))) (nomark _)))))
    (pss_one (ps_ret pe_bl))
    pss_nil)
    hu))), ?_⟩
    have tp := ty_ne ty
    have tq := ty_ne tyq
    refine ⟨_, rfl, _, rfl, o, o2, ps, qs, 100, rfl, ko.kw, kx.kw, okp, okq, by decide, tp, tq, fun H1 s1 => ?_⟩
    refine ⟨_, rfl, l, ps, 100, rfl, pl.same s1, okp, by decide, fun H2 s2 => ?_⟩
    have s02 := s1.trans s2
    refine ⟨_, rfl, l2, qs, 100, rfl, pl2.same s02, okq, by decide, fun H3 s3 => ?_⟩
    have s03 := s02.trans s3
    have ele : (if (long qs : Int) < (long ps : Int) then (long qs : Int) else (long ps : Int)) = ((min (long ps) (long qs) : Nat) : Int) := by
      split <;> omega
    refine ⟨_, _, rfl, _, _, rfl, ?_⟩
    rw [ele]
    have wp : (wr ps).length = long ps := wr_len ps
    have wq : (wr qs).length = long qs := wr_len qs
    have lle := WM.lcp_le (wr ps) (wr qs)
    have swap : WM.lcp (wr qs) (wr ps) = WM.lcp (wr ps) (wr qs) := lcp_swap _ _
    have below : ∀ k, k < WM.lcp (wr ps) (wr qs) → ∃ c, (wr ps)[k]? = some c ∧ (wr qs)[k]? = some c := fun k => lcp_below
    have atM : WM.lcp (wr ps) (wr qs) < min (long ps) (long qs) → ∃ c d, (wr ps)[WM.lcp (wr ps) (wr qs)]? = some c ∧ (wr qs)[WM.lcp (wr ps) (wr qs)]? = some d ∧ c ≠ d := fun k => lcp_at (by omega) (by omega)
    obtain ⟨M, eM⟩ : ∃ M, M = WM.lcp (wr ps) (wr qs) := ⟨_, rfl⟩
    rw [← eM] at lle swap below atM ⊢
    refine ⟨_, rfl, .int (M : Nat), "bool", _, rfl, .int _, kit_bool (.int _), false, rfl, iteF ?_⟩
    refine ⟨_, rfl, .int (M : Nat), "int", _, rfl, .int _, kit_int (.int _), true, rfl, iteF ?_⟩
    refine ⟨_, rfl, _, _, rfl, rfl, false, congrArg V.bl (decide_eq_false (by omega)), iteF ?_⟩
    refine ⟨_, rfl, _, rfl, _, _, rfl, rfl, false, congrArg V.bl (decide_eq_false (by omega)), iteF ?_⟩
    refine ⟨_, rfl, _, rfl, o2, o, qs, ps, 100, rfl, kx.kw.same s03, ko.kw.same s03, okq, okp, by decide, tq, tp, fun H4 s4 => ?_⟩
    rw [swap]
    refine ⟨_, rfl, rfl, false, congrArg V.bl (ne_no _), iteF ?_⟩
    rw [tnext_eq]
    have s04 := s03.trans s4
    have pl4 := pl.same s04
    have pl24 := pl2.same s04
    have lowP : ∀ k, k < long ps → ∃ c, (wr ps)[k]? = some c := fun k h => ⟨_, List.getElem?_eq_getElem (by omega)⟩
    -- the letters there
    refine ⟨_, rfl, _, rfl, _, _, rfl, rfl, _, rfl, ?_⟩
    have fin : ∀ H5, Same H4 H5 → u { nx := fun x H' => Q V.non H', rt := Q } [some (.ref g), some (.ref o), some (.ref l), some (.ref o2), some (.ref l2), some (.int (M : Nat)), some (.int ((min (long ps) (long qs) : Nat))), none, none] H5 := fun H5 s5 => by
      have s05 : SameX g H H5 := .of (s04.trans s5)
      exact tail _ H5 g o l o2 l2 ps qs M n (ko.sameX G s05) (kx.sameX G s05) (pl.sameX G s05) (pl2.sameX G s05) okp okq ty tyq hl eM (G.same (s04.trans s5)) fun H6 s6 => q H6 (s05.trans s6)
    refine ite2 (fun z => ?_) (fun z => ?_)
    · obtain ⟨c, d, hc, hd, ncd⟩ := atM (by have := of_decide_eq_true z; omega)
      refine ⟨_, rfl, _, rfl, l, ps, 100, M, c, rfl, pl4, okp, by decide, hc, _, rfl, _, rfl, l2, qs, 100, M, d, rfl, pl24, okq, by decide, hd, rfl, false, congrArg V.bl (decide_eq_false fun e => ?_), iteF ?_⟩
      · have := S_inj (V.str.inj e)
        simp at this
        exact ncd this
      · exact fin H4 (.refl _)
    · exact fin H4 (.refl _)
end
end K04K

set_option Elab.async false
set_option linter.all false
set_option maxRecDepth 100000
set_option maxHeartbeats 8000000
set_option exponentiation.threshold 1000
namespace K04K
open K04 PySem PySem.Spec PyProof.Rows L2 CK SX KM
theorem ite_fact {c : Prop} [Decidable c] {a b : L2.St → Hp → (V → Hp → Prop) → Prop} {σ : L2.St} {H : Hp} {K : V → Hp → Prop} (F : V → Hp → Prop)
    (ha : c → ∀ K' : V → Hp → Prop, (∀ v H', F v H' → K' v H') → a σ H K') (hb : ¬ c → ∀ K' : V → Hp → Prop, (∀ v H', F v H' → K' v H') → b σ H K') (hk : ∀ v H', F v H' → K v H') : if c then a σ H K else b σ H K := by
  by_cases z : c
  · rw [if_pos z]; exact ha z K hk
  · rw [if_neg z]; exact hb z K hk
theorem Good.sb {k : Nat} {ps : List Pc} (h : Good k ps) : SB k 4 (4 * k) (k * 2 ^ 110) ps := by
  have lt : ∀ l : List Pc, (∀ p ∈ l, (p.1.length ≤ 4) ∧ Low p.1 ∧ p.2 ≤ 2 ^ 110) → lts l ≤ l.length * 4 ∧ cnts l ≤ l.length * 2 ^ 110 := by
    intro l
    induction l with
    | nil => intro _; exact ⟨Nat.zero_le _, Nat.zero_le _⟩
    | cons p r ih =>
      intro h
      have a := ih fun q hq => h q (List.mem_cons_of_mem _ hq)
      have b := h p List.mem_cons_self
      have e1 : lts (p :: r) = p.1.length + lts r := rfl
      have e2 : cnts (p :: r) = p.2 + cnts r := rfl
      rw [e1, e2, List.length_cons, Nat.add_mul, Nat.add_mul]
      omega
  have := lt ps h.2
  have l4 : ps.length * 4 ≤ k * 4 := Nat.mul_le_mul_right _ h.1
  have l5 : ps.length * 2 ^ 110 ≤ k * 2 ^ 110 := Nat.mul_le_mul_right _ h.1
  exact ⟨h.1, fun p hp => ⟨(h.2 p hp).1, (h.2 p hp).2.1⟩, by omega, by omega⟩
theorem Good.long {k : Nat} {ps : List Pc} (h : Good k ps) : long ps ≤ k * (4 * 2 ^ 110) := by
  have e : ∀ l : List Pc, (∀ p ∈ l, (p.1.length ≤ 4) ∧ Low p.1 ∧ p.2 ≤ 2 ^ 110) → KM.long l ≤ l.length * (4 * 2 ^ 110) := by
    intro l
    induction l with
    | nil => intro _; exact Nat.zero_le _
    | cons p r ih =>
      intro h
      have a := ih fun q hq => h q (List.mem_cons_of_mem _ hq)
      have b := h p List.mem_cons_self
      have c : plen p ≤ 4 * 2 ^ 110 := Nat.mul_le_mul b.1 b.2.2
      show plen p + KM.long r ≤ _
      rw [List.length_cons, Nat.add_mul]
      omega
  exact Nat.le_trans (e ps h.2) (Nat.mul_le_mul_right _ h.1)
theorem SB.take {k m s t : Nat} {ps : List Pc} (h : SB k m s t ps) (r : Nat) : SB k m s t (ps.take r) := by
  have e := congrArg lts (List.take_append_drop r ps)
  have e2 := congrArg cnts (List.take_append_drop r ps)
  rw [lts_app] at e
  rw [cnts_app] at e2
  have h1 := h.len
  have h2 := h.lets
  have h3 := h.cnt
  exact ⟨by rw [List.length_take]; omega, fun p hp => h.word p (List.mem_of_mem_take hp), by omega, by omega⟩
def sp_law (K : PySem.W.Frag) : Sp := fun vs H Q _ => ∃ (a : Addr) (ns : List Int), vs = [.ref a] ∧ SqL K H a (ns.map V.int) ∧ ns.length ≤ 63 ∧ ∀ H', Q (.bl true) H'
theorem law_end {l : PySem.W.OpenLaw} {w : World} {K : PySem.W.Frag} {mg : Str → Option Value} {fa C : Addr} (T : Txt K mg C) (hfa : mg "law" = some (.ref fa)) :
    ∃ fd : FuncData, (∀ (s : Shared) (v : Value), BindsTo s fd ⟨[v], []⟩ [("_law_script", v)]) ∧ ∀ base : Heap, K.In base → base.Ns mainGlobals mg → FnOk l.prog w K mg base C8.CX0 13 fa fd ["_law_script"] (sp_law K) := by
  obtain ⟨f, fd, hm, hb, hF⟩ := T.d_law.one
  have e := hfa.symm.trans hm
  cases e
  refine ⟨fd, hb, fun base _ _ => hF sc_law (fun vs H Q E h => ?_) (fun f cdv A outer s H vs Q E hr h => ?_)⟩
  · obtain ⟨_, _, rfl, _⟩ := h; rfl
  · obtain ⟨a, ns, rfl, hS, hl, q⟩ := h
    refine ⟨_, (pss_cons (ps_for PassesOwn.never rfl (pi_range1 (by rfl) T.m_range (pa_cons pe_int pa_nil)) (pg_name (i := 1) sc_law.nd rfl (Or.inl rfl))
    (pss_cons (ps_set (i := 2) sc_law.nd rfl (Or.inl rfl) (C8.pe_c (c_law_generator T) hr (by decide) (by rfl) (pa_cons (pv 0) (pa_cons (pv 1) pa_nil))))
    (pss_cons (ps_set (i := 3) sc_law.nd rfl (Or.inl rfl) (C8.pe_c (c_law_letters T) hr (by decide) (by rfl) (pa_cons (pv 2) pa_nil)))
    (pss_cons (ps_set (i := 4) sc_law.nd rfl (Or.inl rfl) (C8.pe_c (c_law_tidied T) hr (by decide) (by rfl) (pa_cons (C8.pe_c (c_law_pieces T) hr (by decide) (by rfl) (pa_cons (pv 2) (pa_cons (pv 3) (pa_cons pe_int (pa_cons pe_bl pa_nil))))) pa_nil)))
    (pss_cons (ps_set (i := 5) sc_law.nd rfl (Or.inl rfl) (C8.pe_c (c_law_spelled T) hr (by decide) (by rfl) (pa_cons (pv 2) (pa_cons (pe_slice sl_list (pv 4) po_none (po_some (C8.pe_c (c_law_random T) hr (by decide) (by rfl) (pa_cons (pv 2) (pa_cons (pe_op op_add (pe_callB call_len_seq (by rfl) T.m_len (by decide +kernel) (pa_cons (pv 4) pa_nil)) pe_int) pa_nil))))) pa_nil))))
    (pss_cons (ps_set (i := 5) sc_law.nd rfl (Or.inl rfl) (C8.pe_c (c_law_tidied T) hr (by decide) (by rfl) (pa_cons (pe_op op_cat (pv 5) (C8.pe_c (c_law_pieces T) hr (by decide) (by rfl) (pa_cons (pv 2) (pa_cons (pv 3) (pa_cons pe_int (pa_cons pe_bl pa_nil)))))) pa_nil)))
    (pss_cons (ps_set (i := 6) sc_law.nd rfl (Or.inl rfl) (C8.pe_mk (n_KeptWord T) hr (by decide) (by rfl) (pa_cons (pe_callTy call_list_of (by rfl) T.m_list (by decide +kernel) (pa_cons (pv 4) pa_nil)) pa_nil)))
    (pss_cons (ps_for PassesOwn.never rfl (pi_range1 (by rfl) T.m_range (pa_cons pe_int pa_nil)) (pg_name (i := 7) sc_law.nd rfl (Or.inl rfl))
    (pss_one (ps_if (pt_not (pt_val (C8.pe_c (c_law_same_right T) hr (by decide) (by rfl) (pa_cons (pv 6) (pa_cons (pv 4) (pa_cons (C8.pe_c (c_law_spelled T) hr (by decide) (by rfl) (pa_cons (pv 2) (pa_cons (pv 4) pa_nil))) pa_nil))))))
    (pss_one (ps_ret pe_bl))
    pss_nil)))
    (pss_cons (ps_for PassesOwn.never rfl (pi_list (pe_ifExp (pt_cmpR op_gt (C8.pe_c (c_law_long T) hr (by decide) (by rfl) (pa_cons (pv 4) pa_nil)) pe_int (nomark _)) (C8.pe_c (c_law_places T) hr (by decide) (by rfl) (pa_cons (pv 2) (pa_cons (pv 4) pa_nil))) (pe_lst pa_nil))) (pg_name (i := 8) sc_law.nd rfl (Or.inl rfl))
    (pss_one (ps_if (pt_not (pt_val (C8.pe_c (c_law_changed_right T) hr (by decide) (by rfl) (pa_cons (pv 2) (pa_cons (pv 6) (pa_cons (pv 4) (pa_cons (pv 3) (pa_cons (pv 8) pa_nil))))))))
    (pss_one (ps_ret pe_bl))
    pss_nil)))
    (pss_one (ps_if (pt_not (pt_val (C8.pe_c (c_law_two_right T) hr (by decide) (by rfl) (pa_cons (pv 2) (pa_cons (pv 6) (pa_cons (pv 4) (pa_cons (C8.pe_mk (n_KeptWord T) hr (by decide) (by rfl) (pa_cons (pe_callTy call_list_of (by rfl) T.m_list (by decide +kernel) (pa_cons (pv 5) pa_nil)) pa_nil)) (pa_cons (pv 5) pa_nil))))))))
    (pss_one (ps_ret pe_bl))
    pss_nil)))))))))))
    (pss_one (ps_ret pe_bl))), ?_⟩
    refine ⟨3, rfl, by decide, by decide, ?_⟩
    refine for_it walk_range (fun i σ H' => Same H H' ∧ ∃ y1 y2 y3 y4 y5 y6 y7 y8 : Option V, σ = [some (.ref a), y1, y2, y3, y4, y5, y6, y7, y8]) ⟨Same.refl _, none, none, none, none, none, none, none, none, rfl⟩ (fun _ _ _ _ _ => True.intro) (fun i x σ H' H'' hi p y => ?_) fun σ H' p => ?_
    · obtain ⟨s0, y1, y2, y3, y4, y5, y6, y7, y8, rfl⟩ := p
      obtain ⟨rfl, rfl⟩ := y
      have i3 : i < 3 := hi
      refine ⟨_, rfl, _, rfl, a, ns, i, by show [V.ref a, V.int (0 + (i : Int))] = _; rw [Int.zero_add], s0.seq hS, by omega, fun g H1 H2 s1 n1 s2 G2 => ?_⟩
      refine ⟨_, rfl, g, 90000, rfl, G2.le (by decide), fun l3 cs H3 s3 G3 n3 lt3 dist => ?_⟩
      have lg3 := G2.ne n3
      refine ⟨_, rfl, _, rfl, g, l3, cs, 80000, 6, rfl, lt3, lg3, G3.le (by decide), by decide, by decide, fun L4 ps0 H4 gr4 G4 gd4 => ?_⟩
      have lt4 := lt3.sameX gr4.1 lg3
      refine ⟨L4, ps0, 6, rfl, gr4.2.1, gd4.ok, by decide, fun L5 H5 s5 n5 P5 => ?_⟩
      have lt5 := lt4.sameX (.of s5) lg3
      have G5 := G4.same s5
      have s35 : SameX g H3 H5 := gr4.1.trans (.of s5)
      have sb5 : SB 6 4 24 (6 * 2 ^ 110) (tidy ps0) := gd4.sb.tidy
      have ty5 : Ty (tidy ps0) := ty_tidy ps0
      have lg5 : long (tidy ps0) ≤ 6 * (4 * 2 ^ 110) := by rw [long_tidy]; exact gd4.long
      have lx5 : long (tidy ps0) < 2 ^ 190 := Nat.lt_of_le_of_lt lg5 (by decide)
      generalize tidy ps0 = ps at P5 sb5 ty5 lg5 lx5
      obtain ⟨us, hus, pus⟩ := id P5
      have lus := pus.len
      have lps := sb5.len
      refine ⟨_, rfl, _, rfl, _, rfl, _, rfl, L5, us, rfl, .inl (.inl (.inl hus)), _, _, rfl, rfl, g, _, 79990, rfl, G5.le (by decide), by omega, by omega, fun r H6 s6 G6 r0 r1 => ?_⟩
      obtain ⟨rk, rfl⟩ : ∃ k : Nat, r = k := ⟨r.toNat, by omega⟩
      have P6 := P5.sameX G5 s6
      have lt6 := lt5.sameX s6 lg3
      obtain ⟨us6, hus6, pus6⟩ := id P6
      have Lg5 : L5 ≠ g := P5.ne G5
      refine ⟨_, rfl, L5, us6, rfl, .inl (.inl hus6), fun M nM => ?_⟩
      rw [cutV_take]
      have sM := sameNew (o := .lst (us6.take rk)) nM
      have PM : PL (upd H6 M (.lst (us6.take rk))) M (ps.take rk) := ⟨_, upd_same, (pus6.takeK rk).same sM⟩
      have GM := G6.same sM
      have s6M : SameX g H5 (upd H6 M (.lst (us6.take rk))) := s6.trans (.of sM)
      generalize upd H6 M (.lst (us6.take rk)) = H7 at *
      refine ⟨g, M, ps.take rk, 6, 4, 24, 6 * 2 ^ 110, 79000, rfl, PM, sb5.take rk, by decide, by decide, by decide, GM.le (by decide), fun L8 qs0 H8 s8 G8 n8 P8 sb8 _ => ?_⟩
      have lt8 := (lt6.sameX (.of sM) lg3).sameX s8 lg3
      refine ⟨_, rfl, _, rfl, _, rfl, g, l3, cs, 77000, 3, rfl, lt8, lg3, G8.le (by decide), by decide, by decide, fun L9 qs1 H9 gr9 G9 gd9 => ?_⟩
      have P89 := P8.sameX G8 gr9.1
      obtain ⟨ua, hua, pua⟩ := id P89
      obtain ⟨ub, hub, pub⟩ := id gr9.2.1
      have la := pua.len
      have lb := pub.len
      have la2 := sb8.len
      have lb2 := gd9.1
      refine ⟨L8, L9, _, _, rfl, rfl, hua, hub, by rw [sizeLine_eq]; omega, fun La nLa => ?_⟩
      have sLa := sameNew (o := .lst (ua ++ ub)) nLa
      have PLa : PL (upd H9 La (.lst (ua ++ ub))) La (qs0 ++ qs1) := ⟨_, upd_same, (pua.same sLa).app (pub.same sLa)⟩
      have sb9 : SB 3 128 12 (3 * 2 ^ 110) qs1 := gd9.sb.le (by decide) (by decide) (by decide) (Nat.le_refl _)
      have okq : OK 100 (qs0 ++ qs1) := (sb8.app sb9).ok (by decide) (by decide) (by decide) (by decide)
      have Ga := G9.same sLa
      have s8a : SameX g H5 (upd H9 La (.lst (ua ++ ub))) := s6M.trans (s8.trans (gr9.1.trans (.of sLa)))
      have lta := ((lt8.sameX gr9.1 lg3).sameX (.of sLa) lg3)
      generalize upd H9 La (.lst (ua ++ ub)) = Ha at *
      generalize qs0 ++ qs1 = qs2 at PLa okq
      refine ⟨La, qs2, 100, rfl, PLa, okq, by decide, fun Lb Hb sb nLb Pb => ?_⟩
      have tyq := ty_tidy qs2
      have okq := okq.tidy
      generalize tidy qs2 = qs at Pb tyq okq
      have Gb := Ga.same sb
      have s5b : SameX g H5 Hb := s8a.trans (.of sb)
      have ltb := lta.sameX (.of sb) lg3
      have Pp := P5.sameX G5 s5b
      -- the kept word
      have okp : OK 10 ps := sb5.ok (by decide) (by decide) (by decide) (by decide)
      obtain ⟨uq, huq, puq⟩ := id Pp
      refine ⟨_, rfl, L5, uq, rfl, .inl (.inl (.inl huq)), fun Lc nLc => ?_⟩
      have sc := sameNew (o := .lst uq) nLc
      have Pc' : PL (upd Hb Lc (.lst uq)) Lc ps := ⟨uq, upd_same, puq.same sc⟩
      intro x dx nx ndx nex
      refine mk_kept nx ndx nex Pc' okp (by decide) fun Hd sd kfd => ?_
      have Gd := (Gb.same sc).same sd
      have kd := kfd.kg (Gb.same sc)
      have sbd := sc.trans sd
      have Pd := Pp.same sbd
      have Qd := Pb.same sbd
      have ltd := ltb.sameX (.of sbd) lg3
      rw [tidy_id ty5] at kfd kd
      have sXd : SameX g H2 Hd := s3.trans (s35.trans (s5b.trans (.of sbd)))
      have ok100 : OK 100 ps := okp.le (by decide)
      -- three spellings
      refine ⟨rfl, 3, rfl, by decide, by decide, ?_⟩
      refine for_it walk_range (fun j σ H' => SameX g Hd H' ∧ Gn (76000 + 200 * (3 - j)) H' g ∧ j ≤ 3 ∧ ∃ y7 : Option V, σ = [some (.ref a), some (.int (0 + (i : Int))), some (.ref g), some (.ref l3), some (.ref L5), some (.ref Lb), some (.ref x), y7, y8]) ⟨.refl _ _, Gd.le (by decide), by decide, _, rfl⟩ (fun _ _ _ _ _ => True.intro) (fun j xj σ He He' hj p y => ?_) fun σ He p => ?_
      · obtain ⟨se, Ge, _, y7, rfl⟩ := p
        obtain ⟨rfl, rfl⟩ := y
        have j3 : j < 3 := hj
        have eG : 76000 + 200 * (3 - j) = (76000 + 200 * (3 - (j + 1))) + 200 := by omega
        rw [eG] at Ge
        have Pe := Pd.sameX Gd se
        refine ⟨_, rfl, _, rfl, _, rfl, _, rfl, g, L5, ps, 6, 4, 24, 6 * 2 ^ 110, _, rfl, Pe, sb5, by decide, by decide, by decide, Ge, fun Lf ws Hf sf Gf nf Pf sbf ewf => ?_⟩
        have sdf := se.trans sf
        refine ⟨x, L5, Lf, ps, ws, 100, rfl, (kd.sameX Gd sdf).kw, Pd.sameX Gd sdf, Pf, ok100, sbf.ok (by decide) (by decide) (by decide) (by decide), by decide, ty5, ewf, fun Hg sg => ⟨_, rfl, iteF ?_⟩⟩
        exact ⟨sdf.trans (.of sg), Gf.same sg, by omega, _, rfl⟩
      obtain ⟨se, Ge, _, y7, rfl⟩ := p
      have Ge : Gn 76000 He g := Ge.le (by decide)
      -- the places
      have Pe := Pd.sameX Gd se
      refine ⟨_, rfl, L5, ps, 10, rfl, Pe, okp, by decide, fun Hf sf => ⟨_, _, rfl, rfl, _, rfl, ?_⟩⟩
      have sdf := se.trans (.of sf)
      have Gf := Ge.same sf
      have Pf := Pd.sameX Gd sdf
      refine ite_fact (fun v H' => ∃ (D : Addr) (ks : List Nat), v = .ref D ∧ SameX g Hf H' ∧ Gn 75000 H' g ∧ D ≠ g ∧ NL H' D ks ∧ (∀ k ∈ ks, k < long ps) ∧ ks.length ≤ 23) (fun z K' hk => ?_) (fun z K' hk => ?_) (fun v H' h => ?_)
      · have pos : 1 ≤ long ps := by
          have := of_decide_eq_true z
          omega
        exact ⟨_, rfl, _, rfl, g, L5, ps, 10, 75000, rfl, Pf, okp, by decide, lx5, pos, Gf.le (by decide), fun r ks H' s' G' n' nl lt' le' => hk _ _ ⟨r, ks, rfl, s', G', Gf.ne n', nl, lt', by omega⟩⟩
      · refine ⟨Nat.zero_le _, fun D nD => hk _ _ ⟨D, [], rfl, .of (sameNew nD), (Gf.same (sameNew nD)).le (by decide), Gf.ne nD, upd_same, fun k hk => absurd hk List.not_mem_nil, by decide⟩⟩
      obtain ⟨D, ks, rfl, s6', G6', Dg, nl, klt, klen⟩ := h
      have sdh := sdf.trans s6'
      refine ⟨D, rfl, ⟨_, .inl (.inl nl)⟩, ?_⟩
      refine for_it (walk_list (K := K) (a := D) (xs := ks.map fun k => V.int (k : Nat))) (fun j σ H'' => SameX g H' H'' ∧ Gn (20000 + 2000 * (25 - j)) H'' g ∧ j ≤ 23 ∧ ∃ y8 : Option V, σ = [some (.ref a), some (.int (0 + (i : Int))), some (.ref g), some (.ref l3), some (.ref L5), some (.ref Lb), some (.ref x), y7, y8]) ⟨.refl _ _, G6'.le (by decide), by decide, _, rfl⟩ (fun j σ H'' _ p => .inl (.inl (p.1 _ _ Dg nl))) (fun j v σ Hk Hk' hj p y => ?_) fun σ Hk p => ?_
      · obtain ⟨sk, Gk, j23, y8', rfl⟩ := p
        obtain ⟨rfl, hx⟩ := y
        have hj : j < (ks.map fun k => V.int (k : Nat)).length := hj
        rw [List.length_map] at hj
        obtain ⟨k, mk, rfl⟩ : ∃ k, k ∈ ks ∧ v = V.int (k : Nat) := by
          obtain ⟨k, mk, ek⟩ := List.mem_map.mp (List.mem_of_getElem? hx)
          exact ⟨k, mk, ek.symm⟩
        have eG : 20000 + 2000 * (25 - j) = (20000 + 2000 * (25 - (j + 1))) + 2000 := by omega
        rw [eG] at Gk
        have sdk := sdh.trans sk
        refine ⟨_, rfl, _, rfl, _, rfl, _, rfl, _, rfl, g, x, L5, l3, ps, cs, k, _, 6 * 2 ^ 110, rfl, kd.sameX Gd sdk, Pd.sameX Gd sdk, ltd.sameX sdk lg3, lg3, dist, sb5.le (by decide) (by decide) (by decide) (Nat.le_refl _), by decide, ty5, klt _ mk, lx5, Gk, fun Hl sl Gl => ⟨_, rfl, iteF ?_⟩⟩
        exact ⟨sk.trans sl, Gl, by omega, _, rfl⟩
      · obtain ⟨sk, Gk, _, y8', rfl⟩ := p
        have sdk := sdh.trans sk
        have Gk : Gn 40 Hk g := Gk.le (by omega)
        have Qk := Qd.sameX Gd sdk
        obtain ⟨uk, huk, puk⟩ := id Qk
        refine ⟨_, rfl, _, rfl, _, rfl, _, rfl, Lb, uk, rfl, .inl (.inl (.inl huk)), fun Lm nLm => ?_⟩
        have sm := sameNew (o := .lst uk) nLm
        have Pm : PL (upd Hk Lm (.lst uk)) Lm qs := ⟨uk, upd_same, puk.same sm⟩
        intro xb dxb nxb ndxb nexb
        refine mk_kept nxb ndxb nexb Pm okq (by decide) fun Hn sn kfn => ⟨rfl, _, rfl, ?_⟩
        have kn := kfn.kg (Gk.same sm)
        rw [tidy_id tyq] at kn
        have skn := sm.trans sn
        have Gn' := Gk.same skn
        have sdn := sdk.trans (.of skn)
        refine ⟨g, x, L5, xb, Lb, ps, qs, 10, rfl, kd.sameX Gd sdn, kn, Pd.sameX Gd sdn, Qd.sameX Gd sdn, ok100, okq, ty5, tyq, lx5, Gn'.le (by decide), fun Ho so Go => ⟨_, rfl, iteF ⟨fun b o e => ?_, _, _, _, _, _, _, _, _, rfl⟩⟩⟩
        have e1 := s1 _ _ (s0 b o e)
        exact (sXd.trans (sdn.trans so)) b o (fun z => by rw [z, n1] at e1; cases e1) (s2 _ _ e1)
    · exact q H'
end K04K

open PySem PySem.W PyProof.Rows
set_option maxHeartbeats 0 in
theorem PySem.Challenge.cw_countscribe_k04_whole_one_text_in_many_s_holds : PySem.Challenge.rw_countscribe_k04_whole_one_text_in_many_s.Holds := by
  w_on; o_law; k_head; (case hw => w_witness2)
  k_fill
  refine L2.walk_of (l := PySem.Challenge.rw_countscribe_k04_whole_one_text_in_many_s) (n := 63) (k := 13) (x := "_law_script") (CX := fun _ => C8.CX0) (sp := fun w => K04K.sp_law _) rfl (by decide) rfl ⟨rfl, by decide, by decide⟩ (fun w h Y => PySem.W.kIn_of Y) ?F (fun _ _ a ns hl _ hS => ⟨a, ns, rfl, hS, hl, fun _ => rfl⟩) (fun _ _ _ _ _ h => h)
  case F =>
    intro w mg fa h KX G hmg
    refine' CK.with_cls KX "KeptWord" (CK.clF_mk KX G ?a ?pg ?hd ?po ?sa ?mk ?kp ?ha ?hn ?htk ?hm) fun k_KeptWord => ?_
    (case a => k_is); (case pg => k_is); (case hd => k_is); (case po => k_is); (case sa => k_is); (case mk => k_is); (case kp => k_is); (case ha => k_is); (case hn => k_is); (case htk => k_is); (case hm => k_is)
    have f_ends : L2.NoAttr _ _ "_ends" := CK.noA k_KeptWord "_ends" (by k_is)
    have f_pieces : L2.NoAttr _ _ "_pieces" := CK.noA k_KeptWord "_pieces" (by k_is)
    refine' CK.with_def KX "_wall" (K04.topS 0) ["k"] (CK.defF_mk KX G ?a ?l ?c ?k fun _ _ _ _ _ _ us hl => match us, hl with | [_], _ => rfl) fun d_wall => ?_
    (case a => k_is); (case l => k_is); (case c => k_is); (case k => k_is)
    refine' CK.with_def KX "is_whole" (K04.topS 9) ["value"] (CK.defF_mk KX G ?a ?l ?c ?k fun _ _ _ _ _ _ us hl => match us, hl with | [_], _ => rfl) fun d_is_whole => ?_
    (case a => k_is); (case l => k_is); (case c => k_is); (case k => k_is)
    refine' CK.with_def KX "is_count" (K04.topS 10) ["value"] (CK.defF_mk KX G ?a ?l ?c ?k fun _ _ _ _ _ _ us hl => match us, hl with | [_], _ => rfl) fun d_is_count => ?_
    (case a => k_is); (case l => k_is); (case c => k_is); (case k => k_is)
    refine' CK.with_def KX "is_within" (K04.topS 11) ["value", "low", "high"] (CK.defF_mk KX G ?a ?l ?c ?k fun _ _ _ _ _ _ us hl => match us, hl with | [_, _, _], _ => rfl) fun d_is_within => ?_
    (case a => k_is); (case l => k_is); (case c => k_is); (case k => k_is)
    refine' CK.with_def KX "is_lettered" (K04.topS 12) ["value", "most"] (CK.defF_mk KX G ?a ?l ?c ?k fun _ _ _ _ _ _ us hl => match us, hl with | [_, _], _ => rfl) fun d_is_lettered => ?_
    (case a => k_is); (case l => k_is); (case c => k_is); (case k => k_is)
    refine' CK.with_def KX "need_within" (K04.topS 13) ["value", "low", "high"] (CK.defF_mk KX G ?a ?l ?c ?k fun _ _ _ _ _ _ us hl => match us, hl with | [_, _, _], _ => rfl) fun d_need_within => ?_
    (case a => k_is); (case l => k_is); (case c => k_is); (case k => k_is)
    refine' CK.with_def KX "turned_word" (K04.topS 15) ["word", "by"] (CK.defF_mk KX G ?a ?l ?c ?k fun _ _ _ _ _ _ us hl => match us, hl with | [_, _], _ => rfl) fun d_turned_word => ?_
    (case a => k_is); (case l => k_is); (case c => k_is); (case k => k_is)
    refine' CK.with_def KX "stretch" (K04.topS 16) ["word", "start", "size"] (CK.defF_mk KX G ?a ?l ?c ?k fun _ _ _ _ _ _ us hl => match us, hl with | [_, _, _], _ => rfl) fun d_stretch => ?_
    (case a => k_is); (case l => k_is); (case c => k_is); (case k => k_is)
    refine' CK.with_def KX "alike_ahead" (K04.topS 17) ["one", "other"] (CK.defF_mk KX G ?a ?l ?c ?k fun _ _ _ _ _ _ us hl => match us, hl with | [_, _], _ => rfl) fun d_alike_ahead => ?_
    (case a => k_is); (case l => k_is); (case c => k_is); (case k => k_is)
    refine' CK.with_def KX "is_kept_piece" (K04.topS 22) ["value"] (CK.defF_mk KX G ?a ?l ?c ?k fun _ _ _ _ _ _ us hl => match us, hl with | [_], _ => rfl) fun d_is_kept_piece => ?_
    (case a => k_is); (case l => k_is); (case c => k_is); (case k => k_is)
    refine' CK.with_def KX "need_kept_pieces" (K04.topS 23) ["value"] (CK.defF_mk KX G ?a ?l ?c ?k fun _ _ _ _ _ _ us hl => match us, hl with | [_], _ => rfl) fun d_need_kept_pieces => ?_
    (case a => k_is); (case l => k_is); (case c => k_is); (case k => k_is)
    refine' CK.with_def KX "put_together" (K04.topS 24) ["pieces"] (CK.defF_mk KX G ?a ?l ?c ?k fun _ _ _ _ _ _ us hl => match us, hl with | [_], _ => rfl) fun d_put_together => ?_
    (case a => k_is); (case l => k_is); (case c => k_is); (case k => k_is)
    refine' CK.with_def KX "ends_of" (K04.topS 25) ["pieces"] (CK.defF_mk KX G ?a ?l ?c ?k fun _ _ _ _ _ _ us hl => match us, hl with | [_], _ => rfl) fun d_ends_of => ?_
    (case a => k_is); (case l => k_is); (case c => k_is); (case k => k_is)
    refine' CK.with_def KX "stretch_pieces" (K04.topS 26) ["word", "low", "high"] (CK.defF_mk KX G ?a ?l ?c ?k fun _ _ _ _ _ _ us hl => match us, hl with | [_, _, _], _ => rfl) fun d_stretch_pieces => ?_
    (case a => k_is); (case l => k_is); (case c => k_is); (case k => k_is)
    refine' CK.with_met k_KeptWord "__init__" "KeptWord.__init__" (L2.inClass (K04.topS 27) 0) ["self", "pieces"] (CK.metF_mk k_KeptWord _ _ _ _ ?a ?i ?l ?c ?k fun _ _ _ _ _ _ us hl => match us, hl with | [_, _], _ => rfl) fun d_KeptWord___init__ => ?_
    (case a => k_is); (case i => k_is); (case l => k_is); (case c => k_is); (case k => k_is)
    refine' CK.with_met k_KeptWord "pieces" "KeptWord.pieces" (L2.inClass (K04.topS 27) 1) ["self"] (CK.metF_mk k_KeptWord _ _ _ _ ?a ?i ?l ?c ?k fun _ _ _ _ _ _ us hl => match us, hl with | [_], _ => rfl) fun d_KeptWord_pieces => ?_
    (case a => k_is); (case i => k_is); (case l => k_is); (case c => k_is); (case k => k_is)
    refine' CK.with_met k_KeptWord "length" "KeptWord.length" (L2.inClass (K04.topS 27) 2) ["self"] (CK.metF_mk k_KeptWord _ _ _ _ ?a ?i ?l ?c ?k fun _ _ _ _ _ _ us hl => match us, hl with | [_], _ => rfl) fun d_KeptWord_length => ?_
    (case a => k_is); (case i => k_is); (case l => k_is); (case c => k_is); (case k => k_is)
    refine' CK.with_met k_KeptWord "letter" "KeptWord.letter" (L2.inClass (K04.topS 27) 3) ["self", "at"] (CK.metF_mk k_KeptWord _ _ _ _ ?a ?i ?l ?c ?k fun _ _ _ _ _ _ us hl => match us, hl with | [_, _], _ => rfl) fun d_KeptWord_letter => ?_
    (case a => k_is); (case i => k_is); (case l => k_is); (case c => k_is); (case k => k_is)
    refine' CK.with_met k_KeptWord "part" "KeptWord.part" (L2.inClass (K04.topS 27) 4) ["self", "low", "high"] (CK.metF_mk k_KeptWord _ _ _ _ ?a ?i ?l ?c ?k fun _ _ _ _ _ _ us hl => match us, hl with | [_, _, _], _ => rfl) fun d_KeptWord_part => ?_
    (case a => k_is); (case i => k_is); (case l => k_is); (case c => k_is); (case k => k_is)
    refine' CK.with_met k_KeptWord "plain" "KeptWord.plain" (L2.inClass (K04.topS 27) 5) ["self"] (CK.metF_mk k_KeptWord _ _ _ _ ?a ?i ?l ?c ?k fun _ _ _ _ _ _ us hl => match us, hl with | [_], _ => rfl) fun d_KeptWord_plain => ?_
    (case a => k_is); (case i => k_is); (case l => k_is); (case c => k_is); (case k => k_is)
    refine' CK.with_def KX "piece_index" (K04.topS 28) ["ends", "at"] (CK.defF_mk KX G ?a ?l ?c ?k fun _ _ _ _ _ _ us hl => match us, hl with | [_, _], _ => rfl) fun d_piece_index => ?_
    (case a => k_is); (case l => k_is); (case c => k_is); (case k => k_is)
    refine' CK.with_def KX "stretch_of" (K04.topS 29) ["pieces", "ends", "low", "high"] (CK.defF_mk KX G ?a ?l ?c ?k fun _ _ _ _ _ _ us hl => match us, hl with | [_, _, _, _], _ => rfl) fun d_stretch_of => ?_
    (case a => k_is); (case l => k_is); (case c => k_is); (case k => k_is)
    refine' CK.with_def KX "kept_of" (K04.topS 30) ["pieces"] (CK.defF_mk KX G ?a ?l ?c ?k fun _ _ _ _ _ _ us hl => match us, hl with | [_], _ => rfl) fun d_kept_of => ?_
    (case a => k_is); (case l => k_is); (case c => k_is); (case k => k_is)
    refine' CK.with_def KX "need_kept" (K04.topS 31) ["value"] (CK.defF_mk KX G ?a ?l ?c ?k fun _ _ _ _ _ _ us hl => match us, hl with | [_], _ => rfl) fun d_need_kept => ?_
    (case a => k_is); (case l => k_is); (case c => k_is); (case k => k_is)
    refine' CK.with_def KX "sizes_of" (K04.topS 33) ["pieces"] (CK.defF_mk KX G ?a ?l ?c ?k fun _ _ _ _ _ _ us hl => match us, hl with | [_], _ => rfl) fun d_sizes_of => ?_
    (case a => k_is); (case l => k_is); (case c => k_is); (case k => k_is)
    refine' CK.with_def KX "place_within" (K04.topS 34) ["sizes", "at"] (CK.defF_mk KX G ?a ?l ?c ?k fun _ _ _ _ _ _ us hl => match us, hl with | [_, _], _ => rfl) fun d_place_within => ?_
    (case a => k_is); (case l => k_is); (case c => k_is); (case k => k_is)
    refine' CK.with_def KX "alike_from" (K04.topS 35) ["one", "one_at", "other", "other_at"] (CK.defF_mk KX G ?a ?l ?c ?k fun _ _ _ _ _ _ us hl => match us, hl with | [_, _, _, _], _ => rfl) fun d_alike_from => ?_
    (case a => k_is); (case l => k_is); (case c => k_is); (case k => k_is)
    refine' CK.with_def KX "agree" (K04.topS 37) ["one", "other"] (CK.defF_mk KX G ?a ?l ?c ?k fun _ _ _ _ _ _ us hl => match us, hl with | [_, _], _ => rfl) fun d_agree => ?_
    (case a => k_is); (case l => k_is); (case c => k_is); (case k => k_is)
    refine' CK.with_def KX "compare" (K04.topS 38) ["one", "other"] (CK.defF_mk KX G ?a ?l ?c ?k fun _ _ _ _ _ _ us hl => match us, hl with | [_, _], _ => rfl) fun d_compare => ?_
    (case a => k_is); (case l => k_is); (case c => k_is); (case k => k_is)
    refine' CK.with_def KX "same_kept" (K04.topS 39) ["one", "other"] (CK.defF_mk KX G ?a ?l ?c ?k fun _ _ _ _ _ _ us hl => match us, hl with | [_, _], _ => rfl) fun d_same_kept => ?_
    (case a => k_is); (case l => k_is); (case c => k_is); (case k => k_is)
    refine' CK.with_def KX "_law_cell" (K04.topS 41) ["_law_script", "_law_index"] (CK.defF_mk KX G ?a ?l ?c ?k fun _ _ _ _ _ _ us hl => match us, hl with | [_, _], _ => rfl) fun d_law_cell => ?_
    (case a => k_is); (case l => k_is); (case c => k_is); (case k => k_is)
    refine' CK.with_def KX "_law_hash" (K04.topS 42) ["_law_seed", "_law_index"] (CK.defF_mk KX G ?a ?l ?c ?k fun _ _ _ _ _ _ us hl => match us, hl with | [_, _], _ => rfl) fun d_law_hash => ?_
    (case a => k_is); (case l => k_is); (case c => k_is); (case k => k_is)
    refine' CK.with_def KX "_law_generator" (K04.topS 43) ["_law_script", "_law_index"] (CK.defF_mk KX G ?a ?l ?c ?k fun _ _ _ _ _ _ us hl => match us, hl with | [_, _], _ => rfl) fun d_law_generator => ?_
    (case a => k_is); (case l => k_is); (case c => k_is); (case k => k_is)
    refine' CK.with_def KX "_law_random" (K04.topS 44) ["_law_generator_here", "_law_bound"] (CK.defF_mk KX G ?a ?l ?c ?k fun _ _ _ _ _ _ us hl => match us, hl with | [_, _], _ => rfl) fun d_law_random => ?_
    (case a => k_is); (case l => k_is); (case c => k_is); (case k => k_is)
    refine' CK.with_def KX "_law_letters" (K04.topS 45) ["_law_generator_here"] (CK.defF_mk KX G ?a ?l ?c ?k fun _ _ _ _ _ _ us hl => match us, hl with | [_], _ => rfl) fun d_law_letters => ?_
    (case a => k_is); (case l => k_is); (case c => k_is); (case k => k_is)
    refine' CK.with_def KX "_law_word" (K04.topS 46) ["_law_generator_here", "_law_letters_here", "_law_least", "_law_most"] (CK.defF_mk KX G ?a ?l ?c ?k fun _ _ _ _ _ _ us hl => match us, hl with | [_, _, _, _], _ => rfl) fun d_law_word => ?_
    (case a => k_is); (case l => k_is); (case c => k_is); (case k => k_is)
    refine' CK.with_def KX "_law_base" (K04.topS 47) ["_law_generator_here", "_law_letters_here"] (CK.defF_mk KX G ?a ?l ?c ?k fun _ _ _ _ _ _ us hl => match us, hl with | [_, _], _ => rfl) fun d_law_base => ?_
    (case a => k_is); (case l => k_is); (case c => k_is); (case k => k_is)
    refine' CK.with_def KX "_law_count" (K04.topS 48) ["_law_generator_here", "_law_great"] (CK.defF_mk KX G ?a ?l ?c ?k fun _ _ _ _ _ _ us hl => match us, hl with | [_, _], _ => rfl) fun d_law_count => ?_
    (case a => k_is); (case l => k_is); (case c => k_is); (case k => k_is)
    refine' CK.with_def KX "_law_pieces" (K04.topS 49) ["_law_generator_here", "_law_letters_here", "_law_most", "_law_great"] (CK.defF_mk KX G ?a ?l ?c ?k fun _ _ _ _ _ _ us hl => match us, hl with | [_, _, _, _], _ => rfl) fun d_law_pieces => ?_
    (case a => k_is); (case l => k_is); (case c => k_is); (case k => k_is)
    refine' CK.with_def KX "_law_tidied" (K04.topS 50) ["_law_pieces_here"] (CK.defF_mk KX G ?a ?l ?c ?k fun _ _ _ _ _ _ us hl => match us, hl with | [_], _ => rfl) fun d_law_tidied => ?_
    (case a => k_is); (case l => k_is); (case c => k_is); (case k => k_is)
    refine' CK.with_def KX "_law_long" (K04.topS 51) ["_law_pieces_here"] (CK.defF_mk KX G ?a ?l ?c ?k fun _ _ _ _ _ _ us hl => match us, hl with | [_], _ => rfl) fun d_law_long => ?_
    (case a => k_is); (case l => k_is); (case c => k_is); (case k => k_is)
    refine' CK.with_def KX "_law_letter" (K04.topS 52) ["_law_pieces_here", "_law_at"] (CK.defF_mk KX G ?a ?l ?c ?k fun _ _ _ _ _ _ us hl => match us, hl with | [_, _], _ => rfl) fun d_law_letter => ?_
    (case a => k_is); (case l => k_is); (case c => k_is); (case k => k_is)
    refine' CK.with_def KX "_law_part" (K04.topS 53) ["_law_pieces_here", "_law_low", "_law_high"] (CK.defF_mk KX G ?a ?l ?c ?k fun _ _ _ _ _ _ us hl => match us, hl with | [_, _, _], _ => rfl) fun d_law_part => ?_
    (case a => k_is); (case l => k_is); (case c => k_is); (case k => k_is)
    refine' CK.with_def KX "_law_spelled_once" (K04.topS 54) ["_law_generator_here", "_law_pieces_here"] (CK.defF_mk KX G ?a ?l ?c ?k fun _ _ _ _ _ _ us hl => match us, hl with | [_, _], _ => rfl) fun d_law_spelled_once => ?_
    (case a => k_is); (case l => k_is); (case c => k_is); (case k => k_is)
    refine' CK.with_def KX "_law_spelled" (K04.topS 55) ["_law_generator_here", "_law_pieces_here"] (CK.defF_mk KX G ?a ?l ?c ?k fun _ _ _ _ _ _ us hl => match us, hl with | [_, _], _ => rfl) fun d_law_spelled => ?_
    (case a => k_is); (case l => k_is); (case c => k_is); (case k => k_is)
    refine' CK.with_def KX "_law_places" (K04.topS 56) ["_law_generator_here", "_law_pieces_here"] (CK.defF_mk KX G ?a ?l ?c ?k fun _ _ _ _ _ _ us hl => match us, hl with | [_, _], _ => rfl) fun d_law_places => ?_
    (case a => k_is); (case l => k_is); (case c => k_is); (case k => k_is)
    refine' CK.with_def KX "_law_same_right" (K04.topS 57) ["_law_one", "_law_pieces_here", "_law_spelled_here"] (CK.defF_mk KX G ?a ?l ?c ?k fun _ _ _ _ _ _ us hl => match us, hl with | [_, _, _], _ => rfl) fun d_law_same_right => ?_
    (case a => k_is); (case l => k_is); (case c => k_is); (case k => k_is)
    refine' CK.with_def KX "_law_changed_right" (K04.topS 58) ["_law_generator_here", "_law_one", "_law_pieces_here", "_law_letters_here", "_law_at"] (CK.defF_mk KX G ?a ?l ?c ?k fun _ _ _ _ _ _ us hl => match us, hl with | [_, _, _, _, _], _ => rfl) fun d_law_changed_right => ?_
    (case a => k_is); (case l => k_is); (case c => k_is); (case k => k_is)
    refine' CK.with_def KX "_law_two_right" (K04.topS 59) ["_law_generator_here", "_law_one", "_law_pieces_here", "_law_other", "_law_others"] (CK.defF_mk KX G ?a ?l ?c ?k fun _ _ _ _ _ _ us hl => match us, hl with | [_, _, _, _, _], _ => rfl) fun d_law_two_right => ?_
    (case a => k_is); (case l => k_is); (case c => k_is); (case k => k_is)
    refine' CK.with_def KX "law" (K04.topS 60) ["_law_script"] (CK.defF_mk KX G ?a ?l ?c ?k fun _ _ _ _ _ _ us hl => match us, hl with | [_], _ => rfl) fun d_law => ?_
    (case a => k_is); (case l => k_is); (case c => k_is); (case k => k_is)
    have m_bool : mg "bool" = none := by
      refine' PySem.W.mg_none_of KX G ?z
      (case z => k_is)
    have m_enumerate : mg "enumerate" = none := by
      refine' PySem.W.mg_none_of KX G ?z
      (case z => k_is)
    have m_int : mg "int" = none := by
      refine' PySem.W.mg_none_of KX G ?z
      (case z => k_is)
    have m_isinstance : mg "isinstance" = none := by
      refine' PySem.W.mg_none_of KX G ?z
      (case z => k_is)
    have m_len : mg "len" = none := by
      refine' PySem.W.mg_none_of KX G ?z
      (case z => k_is)
    have m_list : mg "list" = none := by
      refine' PySem.W.mg_none_of KX G ?z
      (case z => k_is)
    have m_max : mg "max" = none := by
      refine' PySem.W.mg_none_of KX G ?z
      (case z => k_is)
    have m_min : mg "min" = none := by
      refine' PySem.W.mg_none_of KX G ?z
      (case z => k_is)
    have m_range : mg "range" = none := by
      refine' PySem.W.mg_none_of KX G ?z
      (case z => k_is)
    have m_str : mg "str" = none := by
      refine' PySem.W.mg_none_of KX G ?z
      (case z => k_is)
    have m_sum : mg "sum" = none := by
      refine' PySem.W.mg_none_of KX G ?z
      (case z => k_is)
    have m_tuple : mg "tuple" = none := by
      refine' PySem.W.mg_none_of KX G ?z
      (case z => k_is)
    have m_zip : mg "zip" = none := by
      refine' PySem.W.mg_none_of KX G ?z
      (case z => k_is)
    have k_MOST_KEPT_LETTERS : ∃ u, mg "MOST_KEPT_LETTERS" = some u ∧ L2.RelV (.int 10000) u := by
      refine' ⟨?u_MOST_KEPT_LETTERS, PySem.W.mg_of KX G ?z_MOST_KEPT_LETTERS, ?r_MOST_KEPT_LETTERS⟩
      (case z_MOST_KEPT_LETTERS => k_is)
      all_goals exact ⟨_, rfl⟩
    have k_MOST_KEPT_PIECES : ∃ u, mg "MOST_KEPT_PIECES" = some u ∧ L2.RelV (.int 5000) u := by
      refine' ⟨?u_MOST_KEPT_PIECES, PySem.W.mg_of KX G ?z_MOST_KEPT_PIECES, ?r_MOST_KEPT_PIECES⟩
      (case z_MOST_KEPT_PIECES => k_is)
      all_goals exact ⟨_, rfl⟩
    have k_MOST_KEPT_WORD : ∃ u, mg "MOST_KEPT_WORD" = some u ∧ L2.RelV (.int 2000) u := by
      refine' ⟨?u_MOST_KEPT_WORD, PySem.W.mg_of KX G ?z_MOST_KEPT_WORD, ?r_MOST_KEPT_WORD⟩
      (case z_MOST_KEPT_WORD => k_is)
      all_goals exact ⟨_, rfl⟩
    have T : K04.Txt _ mg _ := ⟨k_KeptWord, f_ends, f_pieces, d_wall, d_is_whole, d_is_count, d_is_within, d_is_lettered, d_need_within, d_turned_word, d_stretch, d_alike_ahead, d_is_kept_piece, d_need_kept_pieces, d_put_together, d_ends_of, d_stretch_pieces, d_KeptWord___init__, d_KeptWord_pieces, d_KeptWord_length, d_KeptWord_letter, d_KeptWord_part, d_KeptWord_plain, d_piece_index, d_stretch_of, d_kept_of, d_need_kept, d_sizes_of, d_place_within, d_alike_from, d_agree, d_compare, d_same_kept, d_law_cell, d_law_hash, d_law_generator, d_law_random, d_law_letters, d_law_word, d_law_base, d_law_count, d_law_pieces, d_law_tidied, d_law_long, d_law_letter, d_law_part, d_law_spelled_once, d_law_spelled, d_law_places, d_law_same_right, d_law_changed_right, d_law_two_right, d_law, m_bool, m_enumerate, m_int, m_isinstance, m_len, m_list, m_max, m_min, m_range, m_str, m_sum, m_tuple, m_zip, k_MOST_KEPT_LETTERS, k_MOST_KEPT_PIECES, k_MOST_KEPT_WORD⟩
    exact K04K.law_end T hmg
