import PyProof.Rows.All
import Wide.All
import OpenK.AllK
import Wide.FinOn
import HandS.ForMost
import HandS.Wide
import HandS.WideBits
import HandS.TupAny
import HandS.TupMul
import HandS.IsInst
import HandS.Walk
import HandS.Style
import KE.GoesZip
import KE.GoesMore
import KE.GoesEnum
import HandS.Codes
import HandS.FStrTup
import PyProof.ListMulRoad
import PyProof.FactsAll.tuple_2
import PyProof.ReprLoop
import PyProof.ReprHeadsTuple
import PyProof.StrHeap
import PyProof.CallStr
import HandS.StrMore
import HandS.SortInts
import PyProof.Rows.StrRev
import PyProof.StrOps2
import KE.DataAny
import PyProof.ReprRoads
import HandS.Ends
import HandS.Comp
import HandS.SortKw
import KE.SortData
import HandS.More
import KE.SortKeyHeap
import HandS.OwnEq
import HandS.ForDict
import HandS.DictComp
import PyProof.InstEq
import PyProof.MinMaxWalk
import PyProof.WalkInts
import KE.KMinKey
import PyProof.Rows.RuleB_mul
import HandS.Conv
import HandS.Gcd
import PySem.Challenge.RW_countscribe_k39_whole_words_of_two_progr
set_option Elab.async false
set_option linter.all false
set_option maxRecDepth 100000
set_option maxHeartbeats 2000000
/-! rules that the layer lacks: a power of great numbers, zip over a list and a tuple in any mix -/
namespace CK
open PySem PySem.Spec PyProof.Rows L2

section
variable {X : Cx}
theorem op_powB : OpR X (binaryOp .Pow) (rI (fun i j => 0 ≤ j ∧ (Builtin.Int.intBits i : Int) * j ≤ 2 ^ 27) fun i j => .int (i ^ j.toNat)) :=
  opI fun _ _ _ _ _ _ _ c q => pow_int c.1 c.2 q
end

/-- a list, or a tuple -/
inductive Kd | L | T
def SqB (K : PySem.W.Frag) : Kd → Hp → Addr → List V → Prop
  | .L, H, a, xs => SqL K H a xs
  | .T, H, a, xs => SqT K H a xs
def HasB : Kd → Heap → Addr → Array Value → Prop
  | .L, h, a, xs => h.IsList a xs
  | .T, h, a, xs => h.IsTuple a xs
def IterB : Kd → Heap → Addr → Addr → Nat → Prop
  | .L, h, it, a, i => h.IsListIter it a i
  | .T, h, it, a, i => h.IsTupleIter it a i
def objB : Kd → Addr → Obj
  | .L, a => { cls := .type "list_iterator", data := .fields #[.ref a, .int 0 0] }
  | .T, a => { cls := .type "tuple_iterator", data := .fields #[.ref a, .int 0 0] }
theorem drawsB (k : Kd) {prog : Program} {w : World} {A : Around} (hh : A.handled = none) (it t : Addr) (ne : t ≠ it) (zs : Array Value) :
    Draws prog w A it [it, t] zs.size (fun i v => zs[i]? = some v) (fun i h => IterB k h it t i ∧ HasB k h t zs) := by
  cases k with
  | L => exact Draws.list hh it t ne zs
  | T => exact Draws.tuple hh it t ne zs
theorem beginsB (k : Kd) (t : Addr) (zs : Array Value) : Begins (.ref t) (objB k t) fun h => HasB k h t zs := by
  cases k with
  | L => exact begins_list t zs
  | T => exact begins_tuple t zs
theorem IterB.at {k : Kd} {h h' : Heap} {it a : Addr} {i : Nat} (x : IterB k h it a i) (e : ∀ o, h.get? it = some o → h'.get? it = some o) : IterB k h' it a i := by
  cases k with
  | L => exact Heap.IsListIter.at x e
  | T => exact Heap.IsTupleIter.at x e
theorem IterB.there {k : Kd} {h : Heap} {it a : Addr} {i : Nat} (x : IterB k h it a i) : ∃ o, h.get? it = some o ∧ ∀ v, o.data ≠ .cell v := by
  cases k with
  | L =>
    obtain ⟨o, e, _, d⟩ := x
    exact ⟨o, e, fun v z => by rw [d] at z; cases z⟩
  | T =>
    obtain ⟨o, e, _, d⟩ := x
    exact ⟨o, e, fun v z => by rw [d] at z; cases z⟩
theorem IterB.new {k : Kd} {h : Heap} {it a : Addr} (e : h.get? it = some (objB k a)) : IterB k h it a 0 := by
  cases k with
  | L => exact ⟨_, e, rfl, rfl⟩
  | T => exact ⟨_, e, rfl, rfl⟩
theorem SqB.get {X : Cx} {pins : List (Addr × Obj)} {σ : L2.St} {H : Hp} {s : Shared} {k : Kd} {a : Addr} {xs : List V} (I : Inv X pins σ H s) (h : SqB X.K k H a xs) :
    ∃ zs : List Value, Vals xs zs ∧ HasB k s.heap a zs.toArray ∧ a < s.heap.objs.size := by
  cases k with
  | L =>
    obtain ⟨zs, r, p, _⟩ := I.list h
    exact ⟨zs, r, p.isList, p.lt⟩
  | T =>
    obtain ⟨zs, r, p, _⟩ := I.tuple h
    exact ⟨zs, r, p, p.lt⟩
theorem SqB.inj {X : Cx} {pins : List (Addr × Obj)} {σ : L2.St} {H : Hp} {s : Shared} {k : Kd} {a : Addr} {xs ys : List V} (I : Inv X pins σ H s) (h : SqB X.K k H a xs) (h' : SqB X.K k H a ys) : xs = ys := by
  cases k with
  | L => exact I.list_inj h h'
  | T => exact I.tuple_inj h h'

/-- both as they stand at each turn, the items in new pairs -/
def ItB (K : PySem.W.Frag) (k k' : Kd) (a b : Addr) : It :=
  ⟨fun i H => ∃ (xs ys : List V) (x y : V), SqB K k H a xs ∧ SqB K k' H b ys ∧ xs[i]? = some x ∧ ys[i]? = some y,
    fun i H v H' => ∃ T x y, v = .ref T ∧ H T = none ∧ H' = upd H T (.tup [x, y]) ∧ (∀ xs, SqB K k H a xs → xs[i]? = some x) ∧ ∀ ys, SqB K k' H b ys → ys[i]? = some y,
    fun i H => ∃ xs ys : List V, SqB K k H a xs ∧ SqB K k' H b ys ∧ i ≤ xs.length ∧ i ≤ ys.length ∧ (i = xs.length ∨ i = ys.length)⟩
theorem five {z TI TO i1 i2 c : Addr} (h : c ∈ [z, TI, TO, i1, i2]) : c = z ∨ c = TI ∨ c = TO ∨ c = i1 ∨ c = i2 := by simpa using h
theorem turnB {P : Program} {w : World} {K : PySem.W.Frag} {elts : List Expr} {kk : Nat} {tp : Pos} {k k' : Kd} {a b z TI TO i1 i2 : Addr} (S : ZipSep2 z TI TO i1 i2 [i1, a] [i2, b]) (na : a ≠ i1) (nb : b ≠ i2) :
    Turn P w K (.Tuple elts kk tp) (ItB K k k' a b) [z, TI, TO, i1, i2] z
      (fun i h => IsZip h z TI TO .none ∧ IsTupOf2 h TI (.ref i1) (.ref i2) ∧ (∃ x y, IsTupOf2 h TO x y) ∧ IterB k h i1 a i ∧ IterB k' h i2 b i) where
  mem := by simp
  obj := fun i h st c hc => by
    obtain ⟨hz, hI, ⟨x, y, hO⟩, h1, h2⟩ := st
    rcases five hc with q | q | q | q | q <;> subst q
    · exact ⟨_, hz, fun v q => nomatch q⟩
    · exact ⟨_, hI, fun v q => nomatch q⟩
    · exact ⟨_, hO, fun v q => nomatch q⟩
    · exact h1.there
    · exact h2.there
  keep := fun i h h' st q => by
    obtain ⟨hz, hI, ⟨x, y, hO⟩, h1, h2⟩ := st
    exact ⟨q z (by simp) _ hz, q TI (by simp) _ hI, ⟨x, y, q TO (by simp) _ hO⟩, h1.at (q i1 (by simp)), h2.at (q i2 (by simp))⟩
  item := by
    intro X hP hw hK hc i pins s σ H E I hf st hg
    subst hP hw hK
    obtain ⟨hz, hI, ⟨x0, y0, hO⟩, h1, h2⟩ := st
    obtain ⟨xs, ys, x, y, qx, qy, hx, hy⟩ := hg
    obtain ⟨zs, r1, p1, la⟩ := SqB.get I qx
    obtain ⟨zs', r2, p2, lb⟩ := SqB.get I qy
    obtain ⟨u, hu, ru⟩ := r1.get hx
    obtain ⟨u2, hu2, ru2⟩ := r2.get hy
    have z0 : z < s.heap.objs.size := Heap.lt_size hz
    have l1 : i < zs.toArray.size := by
      obtain ⟨q, _⟩ := List.getElem?_eq_some_iff.mp hu
      simpa using q
    have l2 : i < zs'.toArray.size := by
      obtain ⟨q, _⟩ := List.getElem?_eq_some_iff.mp hu2
      simpa using q
    have hh : X.A.in1.handled = none := I.ok.hd hc
    refine wpAny_pyNext_zipD2_item S (drawsB k hh i1 a na zs.toArray) (drawsB k' hh i2 b nb zs'.toArray) hz hI hO ⟨h1, p1⟩ ⟨h2, p2⟩ l1 l2 fun x1 x2 h' tk e1 e2 z' TO' t1 t2 hT hsz hk => ?_
    have e1' : x1 = u := by
      have q : zs[i]? = some x1 := by simpa using e1
      exact Option.some.inj (q.symm.trans hu)
    have e2' : x2 = u2 := by
      have q : zs'[i]? = some x2 := by simpa using e2
      exact Option.some.inj (q.symm.trans hu2)
    subst e1' e2'
    refine ⟨_, rfl, wpAny_letOwnedTupleGo_zip (s := { s with heap := h', toks := tk }) z' fun h'' z'' sb => ?_⟩
    have hT2 : h''.get? s.heap.objs.size = some { cls := .type "tuple", data := .seq #[x1, x2] } := (sb.2 _ (Nat.ne_of_gt z0)).trans hT
    have new : ObjOk X.prog X.w (upd H s.heap.objs.size (.tup [x, y])) h'' s.heap.objs.size (.tup [x, y]) :=
      ⟨by show 2 ≤ sizeLine; decide, [x1, x2], .cons ru (.cons ru2 .nil), ⟨_, hT2, rfl, _, rfl⟩⟩
    have I1 : Inv X pins σ (upd H s.heap.objs.size (.tup [x, y])) { s with heap := h'', toks := tk } :=
      I.turnedNew (ch := [z, TI, TO, i1, i2]) (fun c o hb q => by
        have n : c ≠ z ∧ c ≠ TI ∧ c ≠ TO ∧ c ≠ i1 ∧ c ≠ i2 := by simpa using hb
        exact (sb.2 c n.1).trans (hk c o n.1 n.2.2.1 n.2.2.2.1 n.2.2.2.2 q)) hf (Nat.le_refl _) new
    refine ⟨.ref s.heap.objs.size, _, I1, rfl, ⟨_, x, y, rfl, I.hok.fresh (Nat.le_refl _), rfl, fun l hl => by rw [SqB.inj I hl qx]; exact hx, fun l hl => by rw [SqB.inj I hl qy]; exact hy⟩, ⟨z'', ?_, ⟨x1, x2, ?_⟩, ?_, ?_⟩, fun c hcm => ?_⟩
    · exact (sb.2 _ S.TIz).trans (hk _ _ S.TIz S.TITO S.TIi1 S.TIi2 hI)
    · exact (sb.2 _ S.TOz).trans TO'
    · exact t1.1.at fun o q => (sb.2 _ S.zi1.symm).trans q
    · exact t2.1.at fun o q => (sb.2 _ S.zi2.symm).trans q
    · have lt : c < s.heap.objs.size := by
        rcases five hcm with q | q | q | q | q <;> subst q
        · exact z0
        · exact Heap.lt_size hI
        · exact Heap.lt_size hO
        · obtain ⟨_, e, _⟩ := h1.there
          exact Heap.lt_size e
        · obtain ⟨_, e, _⟩ := h2.there
          exact Heap.lt_size e
      rw [upd_ne (Nat.ne_of_lt lt)]
      exact (hf c hcm).1
  done := by
    intro X hP hw hK hc i pins s σ H E I hf st hg
    subst hP hw hK
    obtain ⟨hz, hI, ⟨x0, y0, hO⟩, h1, h2⟩ := st
    obtain ⟨xs, ys, qx, qy, m1, m2, hend⟩ := hg
    obtain ⟨zs, r1, p1, la⟩ := SqB.get I qx
    obtain ⟨zs', r2, p2, lb⟩ := SqB.get I qy
    have e1 : zs.toArray.size = xs.length := by rw [List.size_toArray]; exact r1.length.symm
    have e2 : zs'.toArray.size = ys.length := by rw [List.size_toArray]; exact r2.length.symm
    have hh : X.A.in1.handled = none := I.ok.hd hc
    exact wpAny_pyNext_zipD2_end S (drawsB k hh i1 a na zs.toArray) (drawsB k' hh i2 b nb zs'.toArray) hz hI hO ⟨h1, p1⟩ ⟨h2, p2⟩ (by omega) (by omega) (by omega) fun h' tk hk =>
      ⟨rfl, I.turnedL (ch := [z, TI, TO, i1, i2]) (fun c o hb q => by
        have n : c ≠ z ∧ c ≠ TI ∧ c ≠ TO ∧ c ≠ i1 ∧ c ≠ i2 := by simpa using hb
        exact hk c o n.1 n.2.2.1 n.2.2.2.1 n.2.2.2.2 q) hf⟩
  self := fun A i s Q E st h => wpAny_pyIter_zip st.1 h

def iZipB (K : PySem.W.Frag) (ta : TA) : TI := fun σ H R => ta σ H fun vs H1 => ∃ (k k' : Kd) (a b : Addr) (xs ys : List V), vs = [.ref a, .ref b] ∧ SqB K k H1 a xs ∧ SqB K k' H1 b ys ∧ R (ItB K k k' a b) H1
theorem pi_zipB {X : Cx} {K : PySem.W.Frag} {e e2 : Expr} {ta : TA} {p pos tp : Pos} {elts : List Expr} {kk : Nat} (hK : X.K = K) (hg : Gl X "zip") (hm : X.mg "zip" = none) (ha : PA X [e, e2] ta)
    (hs : starEach [e, e2] X.env = (false, eval e X.env) :: starEach [e2] X.env := by rfl) (hpl : (backTo pos (starEach [e2] X.env)).any (·.1) = false := by rfl) :
    PI X (.Tuple elts kk tp) (.Call (.Name "zip" p) [e, e2] [] pos) (iZipB K ta) := by
  subst hK
  refine ⟨fun pins s σ H R I h => Call_ (ld_blt I hg hm PyProof.Rows.boot_zip (callWith_type1 (thn (ha.run pos pins s σ H _ I h) fun us s1 q => ?_) hs hpl))⟩
  obtain ⟨vs, H1, I1, r1, k, k', a, b, xs, ys, rfl, qx, qy, q⟩ := q
  cases r1 with
  | cons r rr =>
  cases rr with
  | cons r' rr =>
  cases rr
  cases r
  cases r'
  obtain ⟨zs, _, p1, la⟩ := SqB.get I1 qx
  obtain ⟨zs', _, p2, lb⟩ := SqB.get I1 qy
  refine zip_begins2 (beginsB k a zs.toArray) (beginsB k' b zs'.toArray) p1 p2 fun h' hz hI hO o1 o2 hsz hk => wpAny_pyIter_zip hz ?_
  have S := zip_sep2 (N := s1.heap.objs.size) (fp1 := [a]) (fp2 := [b]) (fun c hc => by rw [List.mem_singleton.mp hc]; exact la) (fun c hc => by rw [List.mem_singleton.mp hc]; exact lb)
  refine ⟨s1.heap.objs.size + 4, _, _, _, H1, rfl, I1.kept (t' := s1.toks) hk, turnB S (Nat.ne_of_lt la) (Nat.ne_of_lt (Nat.lt_succ_of_lt lb)), ⟨hz, hI, ⟨_, _, hO⟩, .new o1, .new o2⟩, fun c hc => ?_, q⟩
  have le : s1.heap.objs.size ≤ c := by
    rcases five hc with z | z | z | z | z <;> subst z <;> first | exact Nat.le_add_right _ _ | exact Nat.le_refl _
  exact I1.fpOk le (I1.hok.fresh le)
theorem walkB {K : PySem.W.Frag} {k k' : Kd} {a b : Addr} {xs ys : List V} (hl : xs.length = ys.length) :
    Walk (ItB K k k' a b) xs.length (fun H => SqB K k H a xs ∧ SqB K k' H b ys) (YPair (fun i => xs[i]?) (fun i => ys[i]?)) := by
  refine ⟨fun i H hi q => ?_, fun H q => ⟨xs, ys, q.1, q.2, Nat.le_refl _, Nat.le_of_eq hl, .inl rfl⟩, fun i H v H' _ q y => ?_⟩
  · have h2 : i < ys.length := by omega
    exact ⟨xs, ys, xs[i], ys[i], q.1, q.2, by simp [hi], by simp [h2]⟩
  · obtain ⟨T, x, z, h1, h2, h3, h4, h5⟩ := y
    exact ⟨T, x, z, h1, h2, h3, h4 xs q.1, h5 ys q.2⟩
end CK

set_option Elab.async false
set_option linter.all false
set_option maxRecDepth 100000
set_option maxHeartbeats 4000000
namespace CK
open PySem PySem.Spec PyProof.Rows L2
theorem mulFill : fillsNumberSlot (.type "tuple") "mul" = pure false :=
  PySem.fillsNumberSlot_seq (r := some (.builtin "tuple.__rmul__")) (id := "tuple.__mul__") PySem.F.slot_tuple_mul.lookup (by decide +kernel)
    PySem.F.slot_tuple_rmul.lookup (by decide +kernel)
theorem mulSeq : seqRepeat? (.type "tuple") = pure (some (.builtin "tuple.__mul__")) := by
  unfold seqRepeat?
  rw [PySem.seqSlot_of (name := "__mul__") (id := "tuple.__mul__") (T := "tuple") PySem.F.slot_tuple_mul.lookup (by decide +kernel),
    PySem.seqSlot_of (name := "__rmul__") (id := "tuple.__rmul__") (T := "tuple") PySem.F.slot_tuple_rmul.lookup (by decide +kernel)]
  rfl
theorem rmulNo (a : Int) (t : Tok) (l : Addr) (zs : Array Value) (n : Nat) (dd : Option Addr) (sl : Array (Option Value)) :
    Meets (Builtin.«int.__rmul__» ⟨[.int a t, .ref l], []⟩) (fun _ R s =>
      s.heap.get? l = some { cls := .type "tuple", dict := dd, data := .seq zs n, slots := sl } ∧ R (.ok (.ret Value.notImplemented)) s) := by
  refine Meets.of_wp fun prog w A R s h => ?_
  obtain ⟨hq, g, d, tk, o2⟩ := s
  obtain ⟨hl, h⟩ := h
  wp_walk using wpAny_loadPart' hl
  exact ⟨_, rfl, h⟩
/-- one item, no times: a new empty tuple -/
theorem mul0 (l : Addr) (v : Value) (n : Nat) (dd : Option Addr) (sl : Array (Option Value)) (u : Tok) :
    Meets (Builtin.«tuple.__mul__» ⟨[.ref l, .int 0 u], []⟩) (fun _ R s =>
      s.heap.get? l = some { cls := .type "tuple", dict := dd, data := .seq #[v] n, slots := sl } ∧
      R (.ok (.ret (Value.ref s.heap.objs.size))) { s with heap := s.heap.push { cls := Value.type "tuple", data := Data.seq #[] } }) := by
  refine Meets.of_wp fun prog w A R s h => ?_
  obtain ⟨hq, g, d, tk, o2⟩ := s
  obtain ⟨hl, h⟩ := h
  have f1 := AutoSeq1.idx_int
  wp_walk using wpAny_loadPart' hl
  exact ⟨_, rfl, h⟩
/-- one item, once: the tuple itself -/
theorem mul1 (l : Addr) (v : Value) (n : Nat) (dd : Option Addr) (sl : Array (Option Value)) (u : Tok) :
    Meets (Builtin.«tuple.__mul__» ⟨[.ref l, .int 1 u], []⟩) (fun _ R s =>
      s.heap.get? l = some { cls := .type "tuple", dict := dd, data := .seq #[v] n, slots := sl } ∧ R (.ok (.ret (Value.ref l))) s) := by
  refine Meets.of_wp fun prog w A R s h => ?_
  obtain ⟨hq, g, d, tk, o2⟩ := s
  obtain ⟨hl, h⟩ := h
  have f1 := AutoSeq1.idx_int
  have f2 : (⟨hq, g, d, tk, o2⟩ : Shared).TypeIs (.ref l) "tuple" := ⟨_, hl, rfl⟩
  wp_walk using wpAny_loadPart' hl, wpAny_typeOf f2
  exact ⟨_, rfl, h⟩
section
variable {X : Cx}
theorem sameNew {H : Hp} {p : Addr} {o : HO} (h : H p = none) : Same H (upd H p o) := fun b z e => by
  rw [upd_ne (ne_of_none e h)]
  exact e
/-- one item, k times: 0 or 1 -/
def rRep01 : R2 := fun x y H Q => ∃ (l : Addr) (k : Int) (v : V), x = .ref l ∧ y = .int k ∧ H l = some (.tup [v]) ∧ (k = 0 ∨ k = 1) ∧
  ∀ p H', Same H H' → H' p = some (.tup (List.replicate k.toNat v)) → Q (.ref p) H'
theorem op_rep01 : OpR X (binaryOp .Mult) rRep01 := by
  intro pins s σ H x y xv yv Q I rx ry h
  obtain ⟨l, k, v, rfl, rfl, hl, hk, q⟩ := h
  cases rx
  obtain ⟨t, rfl⟩ := ry
  obtain ⟨zs, r, ⟨⟨cl, dd, da, sl⟩, ho, hc, n, hd⟩, hs⟩ := I.tuple (.inl (.inl hl) : SqT X.K H l [v])
  simp only at hc hd
  subst hc hd
  cases r with
  | cons r1 r2 =>
  cases r2
  rename_i u
  rcases hk with e | e <;> subst e
  · refine wpAny_binaryOp_repeat_ref (T := "tuple") (U := "int") (by decide) ⟨_, ho, rfl⟩ (fun s' => typeIs_int s' 0 t) mulFill F.fills_int_mul F.slot_int_rmul mulSeq F.slot_int_index.lookup
      (call_meets F.slot_int_rmul (typeIs_int s 0 t) F.entry_int_rmul (F.args_int_rmul_2 _ _) (rmulNo 0 t l _ n dd sl)
        ⟨ho, rfl, ⟨_, ho, rfl⟩, call_meets F.slot_tuple_mul ⟨_, ho, rfl⟩ F.entry_tuple_mul (F.args_tuple_mul_2 _ _) (mul0 l _ n dd sl t) ⟨ho, ?_⟩⟩)
    have hn : H s.heap.objs.size = none := I.hok.fresh (Nat.le_refl _)
    refine ⟨.ref s.heap.objs.size, _, I.laid (t' := s.toks) (o := .tup []) (fun b ob q => Heap.get?_push_of_some _ q) (Nat.le_refl _) ?_, rfl, q _ _ (sameNew hn) upd_same⟩
    exact ⟨Nat.zero_le _, [], .nil, IsTup.new _ _⟩
  · exact wpAny_binaryOp_repeat_ref (T := "tuple") (U := "int") (by decide) ⟨_, ho, rfl⟩ (fun s' => typeIs_int s' 1 t) mulFill F.fills_int_mul F.slot_int_rmul mulSeq F.slot_int_index.lookup
      (call_meets F.slot_int_rmul (typeIs_int s 1 t) F.entry_int_rmul (F.args_int_rmul_2 _ _) (rmulNo 1 t l _ n dd sl)
        ⟨ho, rfl, ⟨_, ho, rfl⟩, call_meets F.slot_tuple_mul ⟨_, ho, rfl⟩ F.entry_tuple_mul (F.args_tuple_mul_2 _ _) (mul1 l _ n dd sl t)
          ⟨ho, ⟨.ref l, H, I, rfl, q l H (Same.refl H) hl⟩⟩⟩)
/-! ### str(tuple of whole numbers): some text -/
theorem reprInts {prog : Program} {w : World} : ∀ {ns : List Int} {zs : List Value}, Vals (ns.map V.int) zs → (∀ n ∈ ns, n.natAbs.log2 < 1920) → ReprAll prog w zs (ns.map fun n => (toString n : Str))
  | [], _, r, _ => by
    cases r
    exact .nil
  | n :: l, _, r, h => by
    cases r with
    | cons r1 r2 =>
    obtain ⟨t, rfl⟩ := r1
    exact .cons (ReprIs.int t (h n List.mem_cons_self)) (reprInts r2 fun z hz => h z (List.mem_cons_of_mem _ hz))
end
end CK
namespace CK
open PySem PySem.Spec PyProof.Rows L2
section
variable {X : Cx}
/-- one item, k times -/
def rRepOne (K : PySem.W.Frag) : R2 := fun x y H Q => ∃ (l : Addr) (k : Int) (v : V), x = .ref l ∧ y = .int k ∧ H l = some (.tup [v]) ∧ 0 ≤ k ∧ k ≤ 1000 ∧
  ∀ p H', Same H H' → H' p = some (.tup (List.replicate k.toNat v)) → Q (.ref p) H'
theorem flat_rep {α : Type} (v : α) : ∀ n : Nat, (List.replicate n [v]).flatten = List.replicate n v
  | 0 => rfl
  | n + 1 => by rw [List.replicate_succ, List.flatten_cons, flat_rep v n, List.replicate_succ]; rfl
theorem op_repOne : OpR X (binaryOp .Mult) (rRepOne X.K) := by
  intro pins s σ H x y xv yv Q I rx ry h
  obtain ⟨l, k, v, rfl, rfl, hl, h0, h1, q⟩ := h
  by_cases hk : k = 0 ∨ k = 1
  · exact op_rep01 pins s σ H _ _ xv yv Q I rx ry ⟨l, k, v, rfl, rfl, hl, hk, q⟩
  · refine op_repT pins s σ H _ _ xv yv Q I rx ry ⟨l, k, [v], rfl, rfl, .inl (.inl hl), List.cons_ne_nil _ _, by omega, h1, by show 1 ≤ 1000; omega, fun p hp => q p _ (sameNew hp) ?_⟩
    rw [upd_same, flat_rep]
/-- str of a tuple of whole numbers: some text -/
theorem call_str_tup {k : Nat} (hr : Room k X.A) : CallR X (.type "str") (fun xs H Q => ∃ (a : Addr) (ns : List Int), xs = [.ref a] ∧ H a = some (.tup (ns.map V.int)) ∧ ns.length ≤ 100 ∧ (∀ n ∈ ns, n.natAbs.log2 < 1920) ∧ ∀ m : Str, Q (.str m) H) := by
  intro pins s σ H xs us Q I r h
  obtain ⟨a, ns, rfl, ha, hl, hn, q⟩ := h
  obtain ⟨u, rfl, rx⟩ := vals1 r
  cases rx
  obtain ⟨zs, rv, ⟨o, ho, hc, n, hd⟩, hz⟩ := I.tuple (.inl (.inl ha) : SqT X.K H a _)
  have hu := hr.units
  have hT : ReprAll X.prog X.w zs.toArray.toList (ns.map fun n => (toString n : Str)) := by simpa using reprInts rv hn
  have hp : ∀ l : List Int, (∀ n ∈ l, n.natAbs.log2 < 1920) → piled (l.map fun n => (toString n : Str)) ≤ l.length * 1923 := by
    intro l
    induction l with
    | nil => intro _; exact Nat.le_refl _
    | cons z l ih =>
      intro h
      have a1 := int_text_length_le (a := z) (k := 1920) (by omega) (h z List.mem_cons_self)
      have a2 := ih fun n hn => h n (List.mem_cons_of_mem _ hn)
      rw [List.map_cons, piled_cons, List.length_cons]
      have a3 : ((toString z : Str)).length = (toString z).length := PySem.ofString_length _
      omega
  have h1 := fmt_text (ns.map fun n => (toString n : Str))
  have h2 := hp ns hn
  have h3 : ns.length * 1923 ≤ 192300 := by omega
  have h4 : (tupleText (ns.map fun n => (toString n : Str))).length ≤ sizeLine := by
    rw [sizeLine_eq]
    omega
  refine callType_new F.called_str (by decide) (F.typeCall_str_1 _) (F.newCall_str_1 _) (fun obj => F.args_object_init_2 obj _) F.entry_str_new
    (meets_str_new (S := fun A' R s' => A'.units + 4 < cLine ∧ s'.heap.get? a = some o ∧ ∀ (m : Str) (u tk : Tok), R (.ok (.ret (.str m u))) { s' with toks := tk }) fun prog w A' R s' h =>
      wpAny_strOf_slot rfl (by show A'.units + 1 + 1 < cLine; have := h.1; omega) ⟨o, h.2.1, hc⟩ F.slot_tuple_str F.slot_tuple_repr
        (fmt_tuple_repr h.2.1 hc hd ?_ h4 fun m u tk _ => ⟨m, u, rfl, h.2.2 m u tk⟩))
    ⟨by show X.A.units + 1 + 4 < cLine; omega, ho, fun m u tk => ⟨typeIs_str _ _ _, .str m, H, I.tok _, ⟨u, rfl⟩, q m⟩⟩
  exact by simpa using reprInts rv hn
end
end CK

set_option Elab.async false
set_option linter.all false
set_option maxRecDepth 100000
set_option maxHeartbeats 2000000
namespace CK
open PySem PySem.Spec PyProof.Rows L2
/-! ### a def as it stands behind the top, and its promise by its body -/
structure DefF (K : PySem.W.Frag) (mg : Str → Option Value) (x : Str) (st : Stmt) (ps : List Str) : Prop where
  ex : ∃ (f : Addr) (fd : FuncData), C8.Def K mg x st f fd ∧ ∀ us : List Value, us.length = ps.length → bindArgs fd ⟨us, []⟩ = pure (ps.zip us)
theorem defF_mk {K : PySem.W.Frag} {h : Heap} {mg : Str → Option Value} {x : Str} {st : Stmt} {ps : List Str} {f : Addr} {od an : Option Addr} {oc kV dc pm cd ct : Value} {sl : Array (Option Value)}
    (X : K.In h) (G : h.Ns mainGlobals mg) (a : PySem.W.nsIn K mainGlobals x = some (some (.ref f)))
    (l : K.lookup f = some ⟨oc, od, .func (PySem.W.fnOf x x (C8.fnArgs st) (C8.fnBody st) (C8.fnScope st) .none kV dc pm an cd ct), sl⟩)
    (c : PySem.W.codeIn K cd x = true) (k : PySem.W.keepIn K (.ref f) = true)
    (hb : ∀ (kV doc pm : Value) (an : Option Addr) (cdv ct : Value) (us : List Value), us.length = ps.length →
      bindArgs (PySem.W.fnOf x x (C8.fnArgs st) (C8.fnBody st) (C8.fnScope st) .none kV doc pm an cdv ct) ⟨us, []⟩ = pure (ps.zip us)) : DefF K mg x st ps :=
  ⟨f, _, ⟨⟨oc, od, .none, kV, dc, pm, an, cd, ct, sl, rfl, l, c⟩, PySem.W.mg_of X G a, k⟩, hb kV dc pm an cd ct⟩
theorem calF {P : Program} {w : World} {K : PySem.W.Frag} {mg : Str → Option Value} {base : Heap} {x : Str} {st : Stmt} {N ps : List Str} {k : Nat} {sp : Sp} (D : DefF K mg x st ps) (S : FnScope N ps (C8.fnScope st))
    (len : ∀ vs H Q E, sp vs H Q E → vs.length = ps.length)
    (hbody : ∀ (f : Addr) (cdv : Value) (A : Around) (outer : List Env) (s : Shared) (H : Hp) (vs : List V) (Q : VK) (E : XK), Room k (A.deeper (envOfC x (C8.fnScope st) s.heap.objs.size f cdv)) → sp vs H Q E →
      ∃ t, PSs (cxOf C8.CX0 P w K mg base N x (C8.fnScope st) f cdv A outer s H E).nox (C8.fnBody st) t ∧ t { nx := fun _ H' => Q .non H', rt := Q } (start N vs) H) : C8.Cal P w K mg base (k + 1) x sp [] := by
  obtain ⟨f, fd, F, b⟩ := D.ex
  exact C8.cal0 F (.all b) .nil S len (hbody f)
/-- a def of one parameter as it stands, for the law's end -/
theorem DefF.one {K : PySem.W.Frag} {mg : Str → Option Value} {x p : Str} {st : Stmt} (D : DefF K mg x st [p]) : ∃ (f : Addr) (fd : FuncData), mg x = some (.ref f) ∧ (∀ (s : Shared) (v : Value), BindsTo s fd ⟨[v], []⟩ [(p, v)]) ∧
    ∀ {P : Program} {w : World} {base : Heap} {N : List Str} {k : Nat} {sp : Sp} (S : FnScope N [p] (C8.fnScope st)) (len : ∀ vs H Q E, sp vs H Q E → vs.length = 1)
      (hbody : ∀ (f : Addr) (cdv : Value) (A : Around) (outer : List Env) (s : Shared) (H : Hp) (vs : List V) (Q : VK) (E : XK), Room k (A.deeper (envOfC x (C8.fnScope st) s.heap.objs.size f cdv)) → sp vs H Q E →
        ∃ t, PSs (cxOf C8.CX0 P w K mg base N x (C8.fnScope st) f cdv A outer s H E).nox (C8.fnBody st) t ∧ t { nx := fun _ H' => Q .non H', rt := Q } (start N vs) H), FnOk P w K mg base C8.CX0 (k + 1) f fd [p] sp := by
  obtain ⟨f, fd, F, b⟩ := D.ex
  exact ⟨f, fd, F.mgf, fun s v => .of_eq (b [v] rfl), fun S len hbody => C8.fn0 F.fn S len (hbody f)⟩

theorem with_def {K : PySem.W.Frag} {h : Heap} {mg : Str → Option Value} (_ : K.In h) (x : Str) (st : Stmt) (ps : List Str) {R : Prop} (d : DefF K mg x st ps) (r : DefF K mg x st ps → R) : R := r d
/-! ### heaps -/
/-- all that was tracked is as it was, but for g -/
def SameX (g : Addr) (H H' : Hp) : Prop := ∀ b o, b ≠ g → H b = some o → H' b = some o
theorem SameX.refl (g : Addr) (H : Hp) : SameX g H H := fun _ _ _ h => h
theorem SameX.trans {g : Addr} {H H1 H2 : Hp} (a : SameX g H H1) (b : SameX g H1 H2) : SameX g H H2 := fun c o n h => b c o n (a c o n h)
theorem SameX.of {g : Addr} {H H1 : Hp} (a : Same H H1) : SameX g H H1 := fun c o _ h => a c o h
theorem sameX_upd {g : Addr} {H : Hp} {o : HO} : SameX g H (upd H g o) := fun b z n e => by
  rw [upd_ne n]
  exact e
theorem same_upd2 {H H1 : Hp} {D : Addr} {o : HO} (hD : H D = none) (s : Same H H1) : Same H (upd H1 D o) := fun b z e => by
  rw [upd_ne (ne_of_none e hD)]
  exact s b z e

/-! ### what a value is -/
/-- the built-in type of a value that is known -/
def tnm (H : Hp) : V → String
  | .non => "NoneType"
  | .bl _ => "bool"
  | .int _ => "int"
  | .str _ => "str"
  | .ref a => match H a with
    | some (.lst _) => "list"
    | some (.tup _) => "tuple"
    | _ => "?"
  | _ => "?"
theorem tnm_tup {H : Hp} {a : Addr} {xs : List V} (h : H a = some (.tup xs)) : tnm H (.ref a) = "tuple" := by
  simp only [tnm, h]
theorem tnm_lst {H : Hp} {a : Addr} {xs : List V} (h : H a = some (.lst xs)) : tnm H (.ref a) = "list" := by
  simp only [tnm, h]
/-- a value whose type is known -/
inductive Kn (H : Hp) : V → Prop
  | non : Kn H .non
  | bl (b : Bool) : Kn H (.bl b)
  | int (i : Int) : Kn H (.int i)
  | str (x : Str) : Kn H (.str x)
  | lst {a : Addr} {xs : List V} (e : H a = some (.lst xs)) : Kn H (.ref a)
  | tup {a : Addr} {xs : List V} (e : H a = some (.tup xs)) : Kn H (.ref a)
theorem Kn.same {H H' : Hp} {v : V} (k : Kn H v) (s : Same H H') : Kn H' v := by
  cases k with
  | non => exact .non
  | bl b => exact .bl b
  | int i => exact .int i
  | str x => exact .str x
  | lst e => exact .lst (s _ _ e)
  | tup e => exact .tup (s _ _ e)
theorem Kn.ty {K : PySem.W.Frag} {H : Hp} {v : V} (k : Kn H v) : TyX K H v (.type (tnm H v)) := by
  cases k with
  | non => exact .base .non
  | bl b => exact .base (.bl b)
  | int i => exact .base (.int i)
  | str x => exact .base (.str x)
  | lst e => rw [tnm_lst e]; exact .base (.lst e)
  | tup e => rw [tnm_tup e]; exact .base (.tup e)
section
variable {X : Cx}
/-- isinstance(v, T), a known value, a built-in type -/
theorem call_isK : CallR X (.builtin "isinstance") (fun xs H Q => ∃ (v : V) (T : String) (b : Bool), xs = [v, .ty T] ∧ Kn H v ∧ kitB (tnm H v) T = some b ∧ Q (.bl b) H) := by
  intro pins s σ H xs us Q I r h
  obtain ⟨v, T, b, rfl, k, e, q⟩ := h
  exact call_isi pins s σ H _ us Q I r ⟨v, .ty T, _, _, b, rfl, .ty T, k.ty, kit_ty e, q⟩
end
/-- a whole number, no Boolean -/
def isW : V → Bool
  | .int _ => true
  | _ => false
/-- a count -/
def isC : V → Bool
  | .int i => decide (0 ≤ i)
  | _ => false
/-- isinstance(v, int) -/
def isI : V → Bool
  | .int _ => true
  | .bl _ => true
  | _ => false
def isBo : V → Bool
  | .bl _ => true
  | _ => false
def isTu (H : Hp) : V → Bool
  | .ref a => match H a with
    | some (.tup _) => true
    | _ => false
  | _ => false
def isLi (H : Hp) : V → Bool
  | .ref a => match H a with
    | some (.lst _) => true
    | _ => false
  | _ => false
theorem kit_int {H : Hp} {v : V} (k : Kn H v) : kitB (tnm H v) "int" = some (isI v) := by
  cases k with
  | non => show kitB "NoneType" "int" = some false; decide +kernel
  | bl b => show kitB "bool" "int" = some true; decide +kernel
  | int i => show kitB "int" "int" = some true; decide +kernel
  | str x => show kitB "str" "int" = some false; decide +kernel
  | lst e => rw [tnm_lst e]; show kitB "list" "int" = some false; decide +kernel
  | tup e => rw [tnm_tup e]; show kitB "tuple" "int" = some false; decide +kernel
theorem kit_bool {H : Hp} {v : V} (k : Kn H v) : kitB (tnm H v) "bool" = some (isBo v) := by
  cases k with
  | non => show kitB "NoneType" "bool" = some false; decide +kernel
  | bl b => show kitB "bool" "bool" = some true; decide +kernel
  | int i => show kitB "int" "bool" = some false; decide +kernel
  | str x => show kitB "str" "bool" = some false; decide +kernel
  | lst e => rw [tnm_lst e]; show kitB "list" "bool" = some false; decide +kernel
  | tup e => rw [tnm_tup e]; show kitB "tuple" "bool" = some false; decide +kernel
theorem kit_tuple {H : Hp} {v : V} (k : Kn H v) : kitB (tnm H v) "tuple" = some (isTu H v) := by
  cases k with
  | non => show kitB "NoneType" "tuple" = some false; decide +kernel
  | bl b => show kitB "bool" "tuple" = some false; decide +kernel
  | int i => show kitB "int" "tuple" = some false; decide +kernel
  | str x => show kitB "str" "tuple" = some false; decide +kernel
  | lst e => rw [tnm_lst e, show isTu H (.ref _) = false by simp only [isTu, e]]; decide +kernel
  | tup e => rw [tnm_tup e, show isTu H (.ref _) = true by simp only [isTu, e]]; decide +kernel
theorem kit_list {H : Hp} {v : V} (k : Kn H v) : kitB (tnm H v) "list" = some (isLi H v) := by
  cases k with
  | non => show kitB "NoneType" "list" = some false; decide +kernel
  | bl b => show kitB "bool" "list" = some false; decide +kernel
  | int i => show kitB "int" "list" = some false; decide +kernel
  | str x => show kitB "str" "list" = some false; decide +kernel
  | lst e => rw [tnm_lst e, show isLi H (.ref _) = true by simp only [isLi, e]]; decide +kernel
  | tup e => rw [tnm_tup e, show isLi H (.ref _) = false by simp only [isLi, e]]; decide +kernel
theorem isTu_tup {H : Hp} {a : Addr} {xs : List V} (e : H a = some (.tup xs)) : isTu H (.ref a) = true := by simp only [isTu, e]
theorem isLi_lst {H : Hp} {a : Addr} {xs : List V} (e : H a = some (.lst xs)) : isLi H (.ref a) = true := by simp only [isLi, e]

/-! ### comprehensions that map -/
/-- n turns, each giving f i and leaving all that was tracked -/
theorem lc_mapW {J : It} {n : Nat} {G : Hp → Prop} {Y : Nat → Hp → V → Hp → Prop} (w : Walk J n G Y) {g : TG} {te : TE} {vs : List Nat} {σ : L2.St} {H1 : Hp} {D : Addr} {Qd : Hp → Prop} (f : Nat → V) (hn : n < sizeLine)
    (hG : ∀ H, Same H1 H → G H)
    (hs : ∀ (i : Nat) (x : V) (H H' : Hp) (R : VK), i < n → Same H1 H → Y i H x H' → (∀ H'', Same H H'' → R (f i) H'') → g x (wipe σ vs) H' fun σ2 H2 => wipe σ2 vs = wipe σ vs ∧ te σ2 H2 R)
    (hD : H1 D = none) (hd : ∀ H : Hp, Same H1 H → H D = some (.lst ((List.range n).map f)) → Qd H) :
    ∃ W : Nat → Nat → Hp → Prop, (∃ m, W 0 m (upd H1 D (.lst []))) ∧ ∀ i m H, W i m H →
      (J.stop i H ∧ Qd H) ∨ (J.go i H ∧ ∃ Nx : Hp → Prop, (∀ H', Nx H' → ∃ m', m' < m ∧ W (i + 1) m' H') ∧ ∀ x H', J.yld i H x H' → g x (wipe σ vs) H' fun σ2 H2 => wipe σ2 vs = wipe σ vs ∧ tYes σ2 H2 fun b H3 =>
        if b = true then te σ2 H3 fun y H4 => ∃ acc, H4 D = some (.lst acc) ∧ acc.length < sizeLine ∧ Nx (upd H4 D (.lst (acc ++ [y]))) else Nx H3) := by
  refine lc_it w (fun i H => Same H1 H ∧ H D = some (.lst ((List.range i).map f)) ∧ i ≤ n) ⟨sameNew hD, upd_same, Nat.zero_le _⟩ (fun i H _ p => hG H p.1) (fun i x H H' hi p y => ?_) fun H p => hd H p.1 p.2.1
  have q := hs i x H H' (fun y H4 => ∃ acc, H4 D = some (.lst acc) ∧ acc.length < sizeLine ∧ (Same H1 (upd H4 D (.lst (acc ++ [y]))) ∧ upd H4 D (.lst (acc ++ [y])) D = some (.lst ((List.range (i + 1)).map f)) ∧ i + 1 ≤ n)) hi p.1 y fun H'' s => by
    refine ⟨_, s D _ p.2.1, ?_, same_upd2 hD (p.1.trans s), ?_, hi⟩
    · rw [List.length_map, List.length_range]
      omega
    · rw [upd_same, List.range_succ, List.map_append]
      rfl
  exact q
theorem range_map_get {α β : Type} (xs : List α) (f : α → β) (d : Nat → β) (h : ∀ (i : Nat) (x : α), xs[i]? = some x → d i = f x) : (List.range xs.length).map d = xs.map f := by
  refine List.ext_getElem? fun i => ?_
  by_cases hi : i < xs.length
  · rw [List.getElem?_map, List.getElem?_map, List.getElem?_range hi, List.getElem?_eq_getElem hi]
    exact congrArg some (h i _ (List.getElem?_eq_getElem hi))
  · rw [List.getElem?_eq_none (by simp; omega), List.getElem?_eq_none (by simp; omega)]
/-- over a tuple -/
theorem lcT_map {K : PySem.W.Frag} {a : Addr} {xs : List V} {j : Nat} {te : TE} {vs : List Nat} {σ : L2.St} {H1 : Hp} {D : Addr} {Qd : Hp → Prop} (f : V → V) (ha : H1 a = some (.tup xs)) (hn : xs.length < sizeLine)
    (hs : ∀ (i : Nat) (x : V) (H : Hp) (R : VK), xs[i]? = some x → Same H1 H → (∀ H', Same H H' → R (f x) H') → wipe ((wipe σ vs).set j (some x)) vs = wipe σ vs ∧ te ((wipe σ vs).set j (some x)) H R)
    (hD : H1 D = none) (hd : ∀ H : Hp, Same H1 H → H D = some (.lst (xs.map f)) → Qd H) :
    ∃ W : Nat → Nat → Hp → Prop, (∃ m, W 0 m (upd H1 D (.lst []))) ∧ ∀ i m H, W i m H →
      ((Itt K a).stop i H ∧ Qd H) ∨ ((Itt K a).go i H ∧ ∃ Nx : Hp → Prop, (∀ H', Nx H' → ∃ m', m' < m ∧ W (i + 1) m' H') ∧ ∀ x H', (Itt K a).yld i H x H' → gName j x (wipe σ vs) H' fun σ2 H2 => wipe σ2 vs = wipe σ vs ∧ tYes σ2 H2 fun b H3 =>
        if b = true then te σ2 H3 fun y H4 => ∃ acc, H4 D = some (.lst acc) ∧ acc.length < sizeLine ∧ Nx (upd H4 D (.lst (acc ++ [y]))) else Nx H3) := by
  have e : (List.range xs.length).map (fun i => f (xs.getD i .non)) = xs.map f := range_map_get xs f _ fun i x h => by rw [List.getD_eq_getElem?_getD, h]; rfl
  refine lc_mapW (walk_tup (K := K) (a := a) (xs := xs)) (fun i => f (xs.getD i .non)) hn (fun H s => .inl (.inl (s _ _ ha))) (fun i x H H' R hi s y q => ?_) hD fun H s q => hd H s (by rw [q, e])
  obtain ⟨rfl, hx⟩ := y
  refine hs i x H' R hx s fun H'' s' => ?_
  have := q H'' s'
  rw [show xs.getD i .non = x by rw [List.getD_eq_getElem?_getD, hx]; rfl] at this
  exact this
/-- over a list -/
theorem lcL_map {K : PySem.W.Frag} {a : Addr} {xs : List V} {j : Nat} {te : TE} {vs : List Nat} {σ : L2.St} {H1 : Hp} {D : Addr} {Qd : Hp → Prop} (f : V → V) (ha : H1 a = some (.lst xs)) (hn : xs.length < sizeLine)
    (hs : ∀ (i : Nat) (x : V) (H : Hp) (R : VK), xs[i]? = some x → Same H1 H → (∀ H', Same H H' → R (f x) H') → wipe ((wipe σ vs).set j (some x)) vs = wipe σ vs ∧ te ((wipe σ vs).set j (some x)) H R)
    (hD : H1 D = none) (hd : ∀ H : Hp, Same H1 H → H D = some (.lst (xs.map f)) → Qd H) :
    ∃ W : Nat → Nat → Hp → Prop, (∃ m, W 0 m (upd H1 D (.lst []))) ∧ ∀ i m H, W i m H →
      ((Itl K a).stop i H ∧ Qd H) ∨ ((Itl K a).go i H ∧ ∃ Nx : Hp → Prop, (∀ H', Nx H' → ∃ m', m' < m ∧ W (i + 1) m' H') ∧ ∀ x H', (Itl K a).yld i H x H' → gName j x (wipe σ vs) H' fun σ2 H2 => wipe σ2 vs = wipe σ vs ∧ tYes σ2 H2 fun b H3 =>
        if b = true then te σ2 H3 fun y H4 => ∃ acc, H4 D = some (.lst acc) ∧ acc.length < sizeLine ∧ Nx (upd H4 D (.lst (acc ++ [y]))) else Nx H3) := by
  have e : (List.range xs.length).map (fun i => f (xs.getD i .non)) = xs.map f := range_map_get xs f _ fun i x h => by rw [List.getD_eq_getElem?_getD, h]; rfl
  refine lc_mapW (walk_list (K := K) (a := a) (xs := xs)) (fun i => f (xs.getD i .non)) hn (fun H s => .inl (.inl (s _ _ ha))) (fun i x H H' R hi s y q => ?_) hD fun H s q => hd H s (by rw [q, e])
  obtain ⟨rfl, hx⟩ := y
  refine hs i x H' R hx s fun H'' s' => ?_
  have := q H'' s'
  rw [show xs.getD i .non = x by rw [List.getD_eq_getElem?_getD, hx]; rfl] at this
  exact this
/-- over a range -/
theorem lcR_map {lo : Int} {n : Nat} {j : Nat} {te : TE} {vs : List Nat} {σ : L2.St} {H1 : Hp} {D : Addr} {Qd : Hp → Prop} (f : Nat → V) (hn : n < sizeLine)
    (hs : ∀ (i : Nat) (H : Hp) (R : VK), i < n → Same H1 H → (∀ H', Same H H' → R (f i) H') → wipe ((wipe σ vs).set j (some (.int (lo + i)))) vs = wipe σ vs ∧ te ((wipe σ vs).set j (some (.int (lo + i)))) H R)
    (hD : H1 D = none) (hd : ∀ H : Hp, Same H1 H → H D = some (.lst ((List.range n).map f)) → Qd H) :
    ∃ W : Nat → Nat → Hp → Prop, (∃ m, W 0 m (upd H1 D (.lst []))) ∧ ∀ i m H, W i m H →
      ((Itr lo n).stop i H ∧ Qd H) ∨ ((Itr lo n).go i H ∧ ∃ Nx : Hp → Prop, (∀ H', Nx H' → ∃ m', m' < m ∧ W (i + 1) m' H') ∧ ∀ x H', (Itr lo n).yld i H x H' → gName j x (wipe σ vs) H' fun σ2 H2 => wipe σ2 vs = wipe σ vs ∧ tYes σ2 H2 fun b H3 =>
        if b = true then te σ2 H3 fun y H4 => ∃ acc, H4 D = some (.lst acc) ∧ acc.length < sizeLine ∧ Nx (upd H4 D (.lst (acc ++ [y]))) else Nx H3) := by
  refine lc_mapW (walk_range (lo := lo) (n := n)) f hn (fun H s => True.intro) (fun i x H H' R hi s y q => ?_) hD fun H s q => hd H s q
  obtain ⟨rfl, rfl⟩ := y
  exact hs i H' R hi s q
theorem range_map_zip {α β γ : Type} (xs : List α) (ys : List β) (hl : xs.length = ys.length) (f : α → β → γ) (d : Nat → γ) (h : ∀ (i : Nat) (x : α) (y : β), xs[i]? = some x → ys[i]? = some y → d i = f x y) : (List.range xs.length).map d = List.zipWith f xs ys := by
  refine List.ext_getElem? fun i => ?_
  by_cases hi : i < xs.length
  · have hi2 : i < ys.length := by omega
    rw [List.getElem?_map, List.getElem?_range hi, List.getElem?_zipWith, List.getElem?_eq_getElem hi, List.getElem?_eq_getElem hi2]
    exact congrArg some (h i _ _ (List.getElem?_eq_getElem hi) (List.getElem?_eq_getElem hi2))
  · rw [List.getElem?_eq_none (by simp; omega), List.getElem?_eq_none (by simp; omega)]
/-- over zip -/
theorem lcZ_map {K : PySem.W.Frag} {k k' : Kd} {a b : Addr} {xs ys : List V} {i1 i2 : Nat} {te : TE} {vs : List Nat} {σ : L2.St} {H1 : Hp} {D : Addr} {Qd : Hp → Prop} (f : V → V → V) (hl : xs.length = ys.length) (hn : xs.length < sizeLine)
    (ha : ∀ H, Same H1 H → SqB K k H a xs ∧ SqB K k' H b ys)
    (hs : ∀ (i : Nat) (x y : V) (H : Hp) (R : VK), xs[i]? = some x → ys[i]? = some y → Same H1 H → (∀ H', Same H H' → R (f x y) H') → wipe (((wipe σ vs).set i1 (some x)).set i2 (some y)) vs = wipe σ vs ∧ te (((wipe σ vs).set i1 (some x)).set i2 (some y)) H R)
    (hD : H1 D = none) (hd : ∀ H : Hp, Same H1 H → H D = some (.lst (List.zipWith f xs ys)) → Qd H) :
    ∃ W : Nat → Nat → Hp → Prop, (∃ m, W 0 m (upd H1 D (.lst []))) ∧ ∀ i m H, W i m H →
      ((ItB K k k' a b).stop i H ∧ Qd H) ∨ ((ItB K k k' a b).go i H ∧ ∃ Nx : Hp → Prop, (∀ H', Nx H' → ∃ m', m' < m ∧ W (i + 1) m' H') ∧ ∀ x H', (ItB K k k' a b).yld i H x H' → gTup K 2 (gCons (gName i1) (gCons (gName i2) gNil)) x (wipe σ vs) H' fun σ2 H2 => wipe σ2 vs = wipe σ vs ∧ tYes σ2 H2 fun b H3 =>
        if b = true then te σ2 H3 fun y H4 => ∃ acc, H4 D = some (.lst acc) ∧ acc.length < sizeLine ∧ Nx (upd H4 D (.lst (acc ++ [y]))) else Nx H3) := by
  have e : (List.range xs.length).map (fun i => f (xs.getD i .non) (ys.getD i .non)) = List.zipWith f xs ys := range_map_zip xs ys hl f _ fun i x y h h' => by
    rw [List.getD_eq_getElem?_getD, List.getD_eq_getElem?_getD, h, h']
    rfl
  refine lc_mapW (walkB (K := K) (k := k) (k' := k') (a := a) (b := b) hl) (fun i => f (xs.getD i .non) (ys.getD i .non)) hn ha (fun i v H H' R hi s y q => ?_) hD fun H s q => hd H s (by rw [q, e])
  obtain ⟨T, x, y, rfl, hT, rfl, hx, hy⟩ := y
  have hx : xs[i]? = some x := hx
  have hy : ys[i]? = some y := hy
  have st : Same H (upd H T (.tup [x, y])) := sameNew hT
  refine ⟨T, [x, y], rfl, .inl (.inl upd_same), rfl, x, [y], rfl, y, [], rfl, rfl, hs i x y _ R hx hy (s.trans st) fun H'' s' => ?_⟩
  have := q H'' (st.trans s')
  rw [show xs.getD i .non = x by rw [List.getD_eq_getElem?_getD, hx]; rfl, show ys.getD i .non = y by rw [List.getD_eq_getElem?_getD, hy]; rfl] at this
  exact this
end CK

set_option Elab.async false
set_option linter.all false
set_option maxRecDepth 100000
set_option maxHeartbeats 2000000
namespace CK
open PySem PySem.Spec PyProof.Rows L2
theorem cutV_drop (xs : List V) (k : Nat) : cutV xs (some (k : Int)) none = xs.drop k := by
  unfold cutV
  rw [HT.sIx_nat xs.length 0 k, HT.sIx_none]
  by_cases h : k ≤ xs.length
  · rw [Nat.min_eq_left h, List.take_of_length_le (by rw [List.length_drop]; exact Nat.le_refl _)]
  · rw [Nat.min_eq_right (by omega), List.drop_of_length_le (Nat.le_refl _), List.drop_of_length_le (by omega), List.take_nil]
theorem cutV_take (xs : List V) (k : Nat) : cutV xs none (some (k : Int)) = xs.take k := by
  unfold cutV
  rw [HT.sIx_nat xs.length xs.length k, HT.sIx_none]
  show (xs.drop 0).take (min k xs.length - 0) = xs.take k
  rw [List.drop_zero, Nat.sub_zero]
  by_cases h : k ≤ xs.length
  · rw [Nat.min_eq_left h]
  · rw [Nat.min_eq_right (by omega), List.take_of_length_le (Nat.le_refl _), List.take_of_length_le (by omega)]
section
variable {X : Cx}
/-- a, b = a pair -/
theorem pg_two {K : PySem.W.Frag} {i j : Nat} {x y : Str} {px py pos : Pos} {k : Nat} (hK : X.K = K) (hc : X.calm = true) (hN : X.N.Nodup) (hi : X.N[i]? = some x) (hj : X.N[j]? = some y) (hx : Loc X.env.scope x) (hy : Loc X.env.scope y)
    (f1 : X.fn x = true ∨ X.env.scope.names.lookup x = some .local := by first | exact .inl rfl | exact .inr rfl)
    (f2 : X.fn y = true ∨ X.env.scope.names.lookup y = some .local := by first | exact .inl rfl | exact .inr rfl) :
    PG X (.Tuple [.Name x px, .Name y py] k pos) (gTup K 2 (gCons (gName i) (gCons (gName j) gNil))) := by
  subst hK
  exact pg_tup hc (pgs_cons (pg_name hN hi hx f1) (pgs_cons (pg_name hN hj hy f2) pgs_nil))
/-- t[k:], a tuple: what is behind, wherever it stands -/
theorem sl_drop : SlR X (fun x lo hi H Q => ∃ (a : Addr) (xs : List V) (k : Nat), x = .ref a ∧ lo = some (k : Int) ∧ hi = none ∧ H a = some (.tup xs) ∧ ∀ p H', Same H H' → H' p = some (.tup (xs.drop k)) → Q (.ref p) H') := by
  intro pins s σ H x v vl vu lo hi sl Q I rx hs pl pu h
  obtain ⟨a, xs, k, rfl, rfl, rfl, ha, q⟩ := h
  refine sl_tupA pins s σ H _ v vl vu _ _ sl Q I rx hs pl pu ⟨a, xs, rfl, .inl (.inl ha), fun z => q a H (Same.refl H) ?_, fun _ p hp => q p _ (sameNew hp) (by rw [upd_same, cutV_drop])⟩
  rw [ha, ← cutV_drop xs k]
  unfold cutV
  rw [z.1, z.2, Nat.sub_zero, List.drop_zero, List.take_length]
/-- t[:k] -/
theorem sl_take : SlR X (fun x lo hi H Q => ∃ (a : Addr) (xs : List V) (k : Nat), x = .ref a ∧ lo = none ∧ hi = some (k : Int) ∧ H a = some (.tup xs) ∧ ∀ p H', Same H H' → H' p = some (.tup (xs.take k)) → Q (.ref p) H') := by
  intro pins s σ H x v vl vu lo hi sl Q I rx hs pl pu h
  obtain ⟨a, xs, k, rfl, rfl, rfl, ha, q⟩ := h
  refine sl_tupA pins s σ H _ v vl vu _ _ sl Q I rx hs pl pu ⟨a, xs, rfl, .inl (.inl ha), fun z => q a H (Same.refl H) ?_, fun _ p hp => q p _ (sameNew hp) (by rw [upd_same, cutV_take])⟩
  rw [ha, ← cutV_take xs k]
  unfold cutV
  rw [z.1, z.2, Nat.sub_zero, List.drop_zero, List.take_length]
/-- t + u, tuples -/
theorem op_catS : OpR X (binaryOp .Add) (fun x y H Q => ∃ (a b : Addr) (xs ys : List V), x = .ref a ∧ y = .ref b ∧ H a = some (.tup xs) ∧ H b = some (.tup ys) ∧ xs.length + ys.length ≤ 1000 ∧
    ∀ p H', Same H H' → H' p = some (.tup (xs ++ ys)) → Q (.ref p) H') := by
  intro pins s σ H x y v u Q I rx ry h
  obtain ⟨a, b, xs, ys, rfl, rfl, ha, hb, hl, q⟩ := h
  refine op_catA pins s σ H _ _ v u Q I rx ry ⟨a, b, xs, ys, rfl, rfl, .inl (.inl ha), .inl (.inl hb), Nat.le_of_lt (small1000 hl), fun e => ?_, fun _ e => ?_, fun _ _ p hp => q p _ (sameNew hp) upd_same⟩
  · subst e
    exact q b H (Same.refl H) hb
  · subst e
    exact q a H (Same.refl H) (by rw [List.append_nil]; exact ha)
/-- t[i], xs[i] of what is tracked (no word of the written part, so that it stands in a comprehension) -/
theorem ix_tupH : IxR X (fun x y H Q => ∃ (p : Addr) (xs : List V) (i : Int) (v : V), x = .ref p ∧ y = .int i ∧ H p = some (.tup xs) ∧ atI xs i = some v ∧ Q v H) := by
  intro ve se pins s σ H x y xv yv Q I rx ry h e
  obtain ⟨p, xs, i, v, e1, e2, hp, e3, q⟩ := h
  exact ix_tup ve se pins s σ H x y xv yv Q I rx ry ⟨p, xs, i, v, e1, e2, .inl (.inl hp), e3, q⟩ e
theorem ix_listH : IxR X (fun x y H Q => ∃ (p : Addr) (xs : List V) (i : Int) (v : V), x = .ref p ∧ y = .int i ∧ H p = some (.lst xs) ∧ atI xs i = some v ∧ Q v H) := by
  intro ve se pins s σ H x y xv yv Q I rx ry h e
  obtain ⟨p, xs, i, v, e1, e2, hp, e3, q⟩ := h
  exact ix_list ve se pins s σ H x y xv yv Q I rx ry ⟨p, xs, i, v, e1, e2, .inl (.inl hp), e3, q⟩ e
theorem cr_sumH (hc : X.calm = true) : CallR X (.builtin "sum") (fun vs H Q => ∃ (a : Addr) (ns : List Int), vs = [V.ref a] ∧ H a = some (.lst (ns.map V.int)) ∧ Q (.int ns.sum) H) := by
  intro pins s σ H xs us Q I r h
  obtain ⟨a, ns, e, ha, q⟩ := h
  exact cr_sum hc pins s σ H xs us Q I r ⟨a, ns, e, .inl (.inl ha), q⟩
theorem call_listL : CallR X (.type "list") (fun xs H Q => ∃ (p : Addr) (ys : List V), xs = [.ref p] ∧ H p = some (.lst ys) ∧ ∀ l, H l = none → Q (.ref l) (upd H l (.lst ys))) := by
  intro pins s σ H xs us Q I r h
  obtain ⟨p, ys, e, hp, q⟩ := h
  exact call_list_of pins s σ H xs us Q I r ⟨p, ys, e, .inl (.inl (.inl hp)), q⟩
/-- tuple(xs) of a list: a new tuple -/
theorem call_tupL : CallR X (.type "tuple") (fun xs H Q => ∃ (p : Addr) (ys : List V), xs = [.ref p] ∧ H p = some (.lst ys) ∧ ∀ l H', Same H H' → H' l = some (.tup ys) → Q (.ref l) H') := by
  intro pins s σ H xs us Q I r h
  obtain ⟨p, ys, rfl, hp, q⟩ := h
  exact call_tuple_of pins s σ H _ us Q I r ⟨p, ys, rfl, .inl ⟨.inl (.inl hp), fun l hl => q l _ (sameNew hl) upd_same⟩⟩
end
end CK

set_option Elab.async false
set_option linter.all false
set_option maxRecDepth 100000
set_option maxHeartbeats 2000000
/-! the laws' generator of numbers: a list of three whole numbers -/
namespace CK
open PySem PySem.Spec PyProof.Rows L2
/-- the generator at g, from which n more numbers may be drawn -/
def Gn (n : Nat) (H : Hp) (g : Addr) : Prop := ∃ a b c : Int, H g = some (.lst [.int a, .int b, .int c]) ∧ 0 ≤ a ∧ 0 ≤ b ∧ b < 2 ^ 31 ∧ 0 ≤ c ∧ c + 8 * n ≤ 2 ^ 40
theorem Gn.le {n m : Nat} {H : Hp} {g : Addr} (h : Gn n H g) (hm : m ≤ n) : Gn m H g := by
  obtain ⟨a, b, c, h1, h2, h3, h4, h5, h6⟩ := h
  exact ⟨a, b, c, h1, h2, h3, h4, h5, by omega⟩
theorem Gn.same {n : Nat} {H H' : Hp} {g : Addr} (h : Gn n H g) (s : Same H H') : Gn n H' g := by
  obtain ⟨a, b, c, h1, r⟩ := h
  exact ⟨a, b, c, s _ _ h1, r⟩
theorem Gn.at {n : Nat} {H : Hp} {g : Addr} (h : Gn n H g) : ∃ xs, H g = some (.lst xs) := by
  obtain ⟨a, b, c, h1, r⟩ := h
  exact ⟨_, h1⟩
theorem Gn.ne {n : Nat} {H : Hp} {g D : Addr} (h : Gn n H g) (hD : H D = none) : D ≠ g := fun e => by
  obtain ⟨xs, h1⟩ := h.at
  rw [e, h1] at hD
  cases hD
theorem Gn.upd {n : Nat} {H : Hp} {g D : Addr} {o : HO} (h : Gn n H g) (hD : D ≠ g) : Gn n (upd H D o) g := by
  obtain ⟨a, b, c, h1, r⟩ := h
  exact ⟨a, b, c, by rw [upd_ne (Ne.symm hD)]; exact h1, r⟩
theorem sameX_new {g : Addr} {H : Hp} {D : Addr} {o : HO} (hD : H D = none) : SameX g H (L2.upd H D o) := .of (sameNew hD)
theorem SameX.upd2 {g D : Addr} {H H1 : Hp} {o : HO} (s : SameX g H H1) (hD : H D = none) : SameX g H (L2.upd H1 D o) := fun b z n e => by
  rw [upd_ne (ne_of_none e hD)]
  exact s b z n e
theorem SameX.tup {g a : Addr} {H H' : Hp} {xs : List V} {n : Nat} (s : SameX g H H') (G : Gn n H g) (h : H a = some (.tup xs)) : H' a = some (.tup xs) := s a _ (fun e => by
  obtain ⟨ys, h1⟩ := G.at
  rw [e, h1] at h
  cases h) h
theorem ix_at {n j : Nat} (h : j < n) : ixN n (j : Int) = some j := by
  unfold ixN
  rw [if_pos (by omega), if_pos (by omega)]
  rfl
/-- a comprehension that draws: its numbers stay within most -/
theorem lcD_draw {lo : Int} {g : Addr} {n cnt j : Nat} {most : Int} {te : TE} {vs : List Nat} {σ : L2.St} {H1 : Hp} {D : Addr} {Qd : Hp → Prop} (hc : cnt < sizeLine) (hD : H1 D = none) (hg : Gn (n + cnt) H1 g)
    (hs : ∀ (i : Nat) (H : Hp) (R : VK), i < cnt → SameX g H1 H → Gn (n + (cnt - (i + 1)) + 1) H g → (∀ (r : Int) H', SameX g H H' → Gn (n + (cnt - (i + 1))) H' g → 0 ≤ r → r ≤ most → R (.int r) H') →
      wipe ((wipe σ vs).set j (some (.int (lo + i)))) vs = wipe σ vs ∧ te ((wipe σ vs).set j (some (.int (lo + i)))) H R)
    (hd : ∀ (H : Hp) (ns : List Int), SameX g H1 H → Gn n H g → H D = some (.lst (ns.map V.int)) → ns.length = cnt → (∀ x ∈ ns, 0 ≤ x ∧ x ≤ most) → Qd H) :
    ∃ W : Nat → Nat → Hp → Prop, (∃ m, W 0 m (L2.upd H1 D (.lst []))) ∧ ∀ i m H, W i m H →
      ((Itr lo cnt).stop i H ∧ Qd H) ∨ ((Itr lo cnt).go i H ∧ ∃ Nx : Hp → Prop, (∀ H', Nx H' → ∃ m', m' < m ∧ W (i + 1) m' H') ∧ ∀ x H', (Itr lo cnt).yld i H x H' → gName j x (wipe σ vs) H' fun σ2 H2 => wipe σ2 vs = wipe σ vs ∧ tYes σ2 H2 fun b H3 =>
        if b = true then te σ2 H3 fun y H4 => ∃ acc, H4 D = some (.lst acc) ∧ acc.length < sizeLine ∧ Nx (L2.upd H4 D (.lst (acc ++ [y]))) else Nx H3) := by
  have hDg := hg.ne hD
  refine lc_range (fun i H => SameX g H1 H ∧ Gn (n + (cnt - i)) H g ∧ i ≤ cnt ∧ ∃ ns : List Int, H D = some (.lst (ns.map V.int)) ∧ ns.length = i ∧ ∀ x ∈ ns, 0 ≤ x ∧ x ≤ most)
    ⟨sameX_new hD, hg.upd hDg, Nat.zero_le _, [], upd_same, rfl, fun x h => absurd h List.not_mem_nil⟩ (fun i H hi p => ?_) fun H p => ?_
  · obtain ⟨s, G, _, ns, hL, hl, hb⟩ := p
    have G1 : Gn (n + (cnt - (i + 1)) + 1) H g := by
      have e : n + (cnt - (i + 1)) + 1 = n + (cnt - i) := by omega
      rw [e]
      exact G
    refine hs i H _ hi s G1 fun r H' s' G' h0 h1 => ⟨_, s' D _ hDg hL, by rw [List.length_map]; omega, (s.trans s').upd2 hD, G'.upd hDg, hi, ns ++ [r], ?_, ?_, fun x hx => ?_⟩
    · rw [upd_same, List.map_append]
      rfl
    · rw [List.length_append, hl]
      rfl
    · rcases List.mem_append.mp hx with z | z
      · exact hb x z
      · rw [List.mem_singleton.mp z]
        exact ⟨h0, h1⟩
  · obtain ⟨s, G, _, ns, hL, hl, hb⟩ := p
    rw [Nat.sub_self] at G
    exact hd H ns s G hL hl hb
end CK

set_option Elab.async false
set_option linter.all false
set_option maxRecDepth 100000
set_option maxHeartbeats 2000000
namespace CK
open PySem PySem.Spec PyProof.Rows L2
/-! ### data that are compared -/
def dI (ns : List Int) : PyData := .tuple (ns.map PyData.int)
theorem lay_ints : ∀ ns : List Int, PyData.canLayAll0 (ns.map PyData.int) = true
  | [] => by simp [PyData.canLayAll0]
  | n :: ns => by
    rw [List.map_cons, PyData.canLayAll0, lay_ints ns]
    simp [PyData.canLay0]
theorem deep_ints : ∀ ns : List Int, PyData.depthAll (ns.map PyData.int) = 0
  | [] => by simp [PyData.depthAll]
  | n :: ns => by
    rw [List.map_cons, PyData.depthAll, deep_ints ns]
    simp [PyData.depth]
theorem lay_dI (ns : List Int) : (dI ns).canLay0 = true := by
  unfold dI
  rw [PyData.canLay0]
  exact lay_ints ns
theorem deep_dI (ns : List Int) : (dI ns).depth = 1 := by
  unfold dI
  rw [PyData.depth, deep_ints]
theorem shaped_dI (ns : List Int) : SeqAt.shaped (dI ns) = true := by
  unfold SeqAt.shaped
  rw [lay_dI, deep_dI]
  rfl
theorem lay_forms : ∀ fs : List (List Int), PyData.canLayAll0 (fs.map dI) = true
  | [] => by simp [PyData.canLayAll0]
  | f :: fs => by
    rw [List.map_cons, PyData.canLayAll0, lay_forms fs, lay_dI]
    rfl
theorem deep_forms : ∀ fs : List (List Int), PyData.depthAll (fs.map dI) ≤ 1
  | [] => by simp [PyData.depthAll]
  | f :: fs => by
    have := deep_forms fs
    rw [List.map_cons, PyData.depthAll, deep_dI]
    omega
theorem shaped_forms (fs : List (List Int)) : SeqAt.shaped (.list (fs.map dI)) = true := by
  unfold SeqAt.shaped
  rw [PyData.canLay0, lay_forms, PyData.depth]
  have := deep_forms fs
  rw [decide_eq_true (by omega)]
  rfl
section
variable {K : PySem.W.Frag} {H : Hp}
theorem dpAll_ints : ∀ ns : List Int, DpAll K H (ns.map V.int) (ns.map PyData.int)
  | [] => .nil
  | n :: ns => .cons (.int n) (dpAll_ints ns)
theorem dp_ints {a : Addr} {ns : List Int} (h : H a = some (.tup (ns.map V.int))) : Dp K H (.ref a) (dI ns) := .tup (.inl (.inl h)) (dpAll_ints ns)
end
section
variable {X : Cx}
/-- x != y, of equal data -/
theorem op_neSame (hu : X.A.units + 64 < cLine) : OpR X (compareOp .NotEq) (fun x y H Q => ∃ d, Dp X.K H x d ∧ Dp X.K H y d ∧ SeqAt.shaped d = true ∧ Q (.bl false) H) := by
  intro pins s σ H x y v u Q I rx ry h
  obtain ⟨d, h1, h2, h3, q⟩ := h
  refine op_neD hu pins s σ H x y v u Q I rx ry ⟨d, d, h1, h2, h3, h3, ?_⟩
  rw [SeqAt.eqv_refl d (SeqAt.canLay_of_shaped h3)]
  exact q
end
/-! ### comprehensions that map, by the turn's number -/
theorem lcZ_mapI {K : PySem.W.Frag} {k k' : Kd} {a b : Addr} {xs ys : List V} {i1 i2 : Nat} {te : TE} {vs : List Nat} {σ : L2.St} {H1 : Hp} {D : Addr} {Qd : Hp → Prop} (f : Nat → V) (hl : xs.length = ys.length) (hn : xs.length < sizeLine)
    (ha : ∀ H, Same H1 H → SqB K k H a xs ∧ SqB K k' H b ys)
    (hs : ∀ (i : Nat) (x y : V) (H : Hp) (R : VK), xs[i]? = some x → ys[i]? = some y → Same H1 H → (∀ H', Same H H' → R (f i) H') → wipe (((wipe σ vs).set i1 (some x)).set i2 (some y)) vs = wipe σ vs ∧ te (((wipe σ vs).set i1 (some x)).set i2 (some y)) H R)
    (hD : H1 D = none) (hd : ∀ H : Hp, Same H1 H → H D = some (.lst ((List.range xs.length).map f)) → Qd H) :
    ∃ W : Nat → Nat → Hp → Prop, (∃ m, W 0 m (upd H1 D (.lst []))) ∧ ∀ i m H, W i m H →
      ((ItB K k k' a b).stop i H ∧ Qd H) ∨ ((ItB K k k' a b).go i H ∧ ∃ Nx : Hp → Prop, (∀ H', Nx H' → ∃ m', m' < m ∧ W (i + 1) m' H') ∧ ∀ x H', (ItB K k k' a b).yld i H x H' → gTup K 2 (gCons (gName i1) (gCons (gName i2) gNil)) x (wipe σ vs) H' fun σ2 H2 => wipe σ2 vs = wipe σ vs ∧ tYes σ2 H2 fun b H3 =>
        if b = true then te σ2 H3 fun y H4 => ∃ acc, H4 D = some (.lst acc) ∧ acc.length < sizeLine ∧ Nx (upd H4 D (.lst (acc ++ [y]))) else Nx H3) := by
  refine lc_mapW (walkB (K := K) (k := k) (k' := k') (a := a) (b := b) hl) f hn ha (fun i v H H' R hi s y q => ?_) hD hd
  obtain ⟨T, x, y, rfl, hT, rfl, hx, hy⟩ := y
  have hx : xs[i]? = some x := hx
  have hy : ys[i]? = some y := hy
  have st : Same H (upd H T (.tup [x, y])) := sameNew hT
  exact ⟨T, [x, y], rfl, .inl (.inl upd_same), rfl, x, [y], rfl, y, [], rfl, rfl, hs i x y _ R hx hy (s.trans st) fun H'' s' => q H'' (st.trans s')⟩
theorem lcL_mapI {K : PySem.W.Frag} {a : Addr} {xs : List V} {j : Nat} {te : TE} {vs : List Nat} {σ : L2.St} {H1 : Hp} {D : Addr} {Qd : Hp → Prop} (f : Nat → V) (ha : H1 a = some (.lst xs)) (hn : xs.length < sizeLine)
    (hs : ∀ (i : Nat) (x : V) (H : Hp) (R : VK), xs[i]? = some x → Same H1 H → (∀ H', Same H H' → R (f i) H') → wipe ((wipe σ vs).set j (some x)) vs = wipe σ vs ∧ te ((wipe σ vs).set j (some x)) H R)
    (hD : H1 D = none) (hd : ∀ H : Hp, Same H1 H → H D = some (.lst ((List.range xs.length).map f)) → Qd H) :
    ∃ W : Nat → Nat → Hp → Prop, (∃ m, W 0 m (upd H1 D (.lst []))) ∧ ∀ i m H, W i m H →
      ((Itl K a).stop i H ∧ Qd H) ∨ ((Itl K a).go i H ∧ ∃ Nx : Hp → Prop, (∀ H', Nx H' → ∃ m', m' < m ∧ W (i + 1) m' H') ∧ ∀ x H', (Itl K a).yld i H x H' → gName j x (wipe σ vs) H' fun σ2 H2 => wipe σ2 vs = wipe σ vs ∧ tYes σ2 H2 fun b H3 =>
        if b = true then te σ2 H3 fun y H4 => ∃ acc, H4 D = some (.lst acc) ∧ acc.length < sizeLine ∧ Nx (upd H4 D (.lst (acc ++ [y]))) else Nx H3) := by
  refine lc_mapW (walk_list (K := K) (a := a) (xs := xs)) f hn (fun H s => .inl (.inl (s _ _ ha))) (fun i x H H' R hi s y q => ?_) hD hd
  obtain ⟨rfl, hx⟩ := y
  exact hs i x H' R hx s q
end CK

set_option Elab.async false
set_option linter.all false
set_option maxRecDepth 100000
set_option maxHeartbeats 2000000
/-! own classes: their facts, their methods' promises by their bodies -/
namespace CK
open PySem PySem.Spec PyProof.Rows L2
/-- a method's def as it stands behind the top -/
structure MetF (K : PySem.W.Frag) (C : Addr) (m q : Str) (st : Stmt) (ps : List Str) : Prop where
  ex : ∃ (f : Addr) (fd : FuncData), C8.Fun K m q st f fd ∧ Meth K C m f ∧ Binds K fd ps []
/-- a class as it stands -/
structure ClF (K : PySem.W.Frag) (mg : Str → Option Value) (x : Str) (C : Addr) : Prop where
  mgC : mg x = some (.ref C)
  makes : PySem.W.makesIn K C = true
  kp : PySem.W.keepIn K (.ref C) = true
  ins : C8.InsC K C
theorem metF_mk {K : PySem.W.Frag} {mg : Str → Option Value} {x : Str} {C : Addr} (_ : ClF K mg x C) (m q : Str) (st : Stmt) (ps : List Str) {f : Addr} {od an : Option Addr} {oc kV dc pm cd ct : Value} {sl : Array (Option Value)}
    (a : PySem.W.findIn K (.ref C) m = some (some (.ref f))) (i : PySem.W.isFn K (.ref f) = true)
    (l : K.lookup f = some ⟨oc, od, .func (PySem.W.fnOf m q (C8.fnArgs st) (C8.fnBody st) (C8.fnScope st) .none kV dc pm an cd ct), sl⟩)
    (c : PySem.W.codeIn K cd q = true) (k : PySem.W.keepIn K (.ref f) = true)
    (hb : ∀ (kV doc pm : Value) (an : Option Addr) (cdv ct : Value) (us : List Value), us.length = ps.length →
      bindArgs (PySem.W.fnOf m q (C8.fnArgs st) (C8.fnBody st) (C8.fnScope st) .none kV doc pm an cdv ct) ⟨us, []⟩ = pure (ps.zip us)) : MetF K C m q st ps :=
  ⟨f, _, ⟨oc, od, .none, kV, dc, pm, an, cd, ct, sl, rfl, l, c⟩, ⟨a, i, k⟩, C8.Fun.binds ⟨oc, od, .none, kV, dc, pm, an, cd, ct, sl, rfl, l, c⟩ rfl hb⟩
theorem clF_mk {K : PySem.W.Frag} {h : Heap} {mg : Str → Option Value} {x : Str} {C : Addr} (X : K.In h) (G : h.Ns mainGlobals mg)
    (a : PySem.W.nsIn K mainGlobals x = some (some (.ref C))) (pg : PySem.W.plainGet K C Str.empty = true) (hd : PySem.W.hasDictIn K C = true) (po : PySem.W.plainOver K C = true)
    (sa : PySem.W.findIn K (.ref C) "__setattr__" = some (some (.builtin "object.__setattr__"))) (mk : PySem.W.makesIn K C = true) (kp : PySem.W.keepIn K (.ref C) = true)
    (ha : PySem.W.findIn K (.ref C) "__class__" = some (some (.builtin "object.__class__"))) (hn : PySem.W.specialIn K (.builtin "object.__class__") "__get__" = some (some (.builtin "getset_descriptor.__get__")))
    (htk : PySem.W.takesIn K (.builtin "object.__class__") = some true) (hm : PySem.W.mroIn K C (.type "object") = some true) : ClF K mg x C :=
  ⟨PySem.W.mg_of X G a, mk, kp, ⟨⟨pg, hd, po, sa⟩, ha, hn, htk, hm, if_pos (beq_self_eq_true _)⟩⟩
theorem with_cls {K : PySem.W.Frag} {h : Heap} {mg : Str → Option Value} (_ : K.In h) (x : Str) {C : Addr} {R : Prop} (d : ClF K mg x C) (r : ClF K mg x C → R) : R := r d
theorem with_met {K : PySem.W.Frag} {mg : Str → Option Value} {x : Str} {C : Addr} (_ : ClF K mg x C) (m q : Str) (st : Stmt) (ps : List Str) {R : Prop} (d : MetF K C m q st ps) (r : MetF K C m q st ps → R) : R := r d
section
variable {P : Program} {w : World} {K : PySem.W.Frag} {mg : Str → Option Value} {base : Heap} {x : Str} {C : Addr}
theorem metF {m q : Str} {st : Stmt} {N ps : List Str} {k : Nat} {sp : Sp} (c : ClF K mg x C) (D : MetF K C m q st ps) (S : FnScope N ps (C8.fnScope st))
    (len : ∀ vs H Q E, sp vs H Q E → vs.length = ps.length)
    (hbody : ∀ (f : Addr) (cdv : Value) (A : Around) (outer : List Env) (s : Shared) (H : Hp) (vs : List V) (Q : VK) (E : XK), Room k (A.deeper (envOfC q (C8.fnScope st) s.heap.objs.size f cdv)) → sp vs H Q E →
      ∃ t, PSs (cxOf C8.CX0 P w K mg base N q (C8.fnScope st) f cdv A outer s H E).nox (C8.fnBody st) t ∧ t { nx := fun _ H' => Q .non H', rt := Q } (start N vs) H) : C8.Met P w K mg base (k + 1) C m sp [] := by
  obtain ⟨f, fd, F, me, b⟩ := D.ex
  exact C8.met0 c.ins.cl me F b S len (hbody f)
theorem makF {q : Str} {st : Stmt} {N ps : List Str} {k : Nat} {sp : Sp} (c : ClF K mg x C) (D : MetF K C "__init__" q st ps) (S : FnScope N ps (C8.fnScope st))
    (len : ∀ vs H Q E, sp vs H Q E → vs.length = ps.length)
    (hbody : ∀ (f : Addr) (cdv : Value) (A : Around) (outer : List Env) (s : Shared) (H : Hp) (vs : List V) (Q : VK) (E : XK), Room k (A.deeper (envOfC q (C8.fnScope st) s.heap.objs.size f cdv)) → sp vs H Q E →
      ∃ t, PSs (cxOf C8.CX0 P w K mg base N q (C8.fnScope st) f cdv A outer s H E).nox (C8.fnBody st) t ∧ t { nx := fun _ H' => Q .non H', rt := Q } (start N vs) H) : C8.Mak P w K mg base (k + 1) x C sp [] := by
  obtain ⟨f, fd, F, me, b⟩ := D.ex
  exact C8.mak0 ⟨c.makes, me.at_, me.fn, c.kp⟩ c.mgC F b .nil S len (hbody f)
end
end CK
namespace CK
open PySem L2
theorem noA {K : PySem.W.Frag} {mg : Str → Option Value} {x : Str} {C : Addr} (_ : ClF K mg x C) (f : Str) (h : PySem.W.findIn K (.ref C) f = some none) : NoAttr K C f := h
end CK

set_option Elab.async false
set_option linter.all false
set_option maxRecDepth 100000
set_option maxHeartbeats 2000000
/-! texts by their code points -/
namespace CK
open PySem PySem.Spec PyProof.Rows L2 SX
theorem rev_S (z : List Nat) : (⟨((Builtin.Str.strSliceIndices none none (-1) (S z).length).filterMap ((S z).cps[·]?)).toArray⟩ : Str) = S z.reverse := by
  refine TL.ext_tl ?_
  show ((Builtin.Str.strSliceIndices none none (-1) (S z).length).filterMap ((S z).cps[·]?)).toArray.toList = z.reverse
  rw [List.toList_toArray, S_len, picked_rev, filterMap_get, List.map_map]
  · refine List.ext_getElem (by simp) fun i h1 h2 => ?_
    have hi : i < z.length := by simpa using h1
    rw [List.getElem_map, List.getElem_range, List.getElem_reverse]
    show (S z).cps.getD (z.length - 1 - i) 0 = _
    have : z.length - 1 - i < z.length := by omega
    simp [Array.getD, S, this]
  · intro i hi
    obtain ⟨k, hk, rfl⟩ := List.mem_map.mp hi
    have := List.mem_range.mp hk
    show z.length - 1 - k < z.length
    omega
section
variable {X : Cx}
/-- s[::-1] -/
def tRevS (te : TE) : TE := fun σ H Q => te σ H fun x H1 => ∃ z : List Nat, x = .str (S z) ∧ z.length ≤ sizeLine ∧ Q (.str (S z.reverse)) H1
theorem pe_revS {e : Expr} {te : TE} {k : Nat} {p1 p2 p3 pos : Pos} (he : PE X e te) : PE X (.Subscript e (.Slice none none (some (.UnaryOp .USub (.Constant (.int 1) k p1) p2)) p3) pos) (tRevS te) := by
  refine ⟨fun pins s σ H Q I h => ?_⟩
  refine Subscript_ (thn (he.run pins s σ H _ I h) fun v s1 ⟨x, H1, I1, r1, q1⟩ => ?_)
  obtain ⟨z, ex, hz, q⟩ := q1
  subst ex
  obtain ⟨t, rfl⟩ := r1
  have hst : PO X (some (.UnaryOp .USub (.Constant (.int 1) k p1) p2)) (tPart (tUn (rU fun i => .int (-i)) (tC (.int 1)))) := po_some (pe_un un_neg pe_int)
  refine wpAny_Slice (thn (po_none.run pins s1 σ H1 (fun o H2 => o = none ∧ H2 = H1) I1 ⟨rfl, rfl⟩) fun vl s2 ⟨l, H2, I2, pl, el, e2⟩ => ?_)
  subst el e2
  refine thn (po_none.run pins s2 σ H2 (fun o H3 => o = none ∧ H3 = H2) I2 ⟨rfl, rfl⟩) fun vu s3 ⟨u, H3, I3, pu, eu, e3⟩ => ?_
  subst eu e3
  refine thn (hst.run pins s3 σ H3 (fun o H4 => o = some (-1) ∧ H4 = H3) I3 ⟨1, rfl, -1, rfl, rfl, rfl⟩) fun vs s4 ⟨o, H4, I4, ps, eo, e4⟩ => ?_
  subst eo e4
  have I5 : Inv X pins σ H4 { s4 with heap := s4.heap.push { cls := .type "slice", data := .fields #[vl, vu, vs] } } := I4.kept (t' := s4.toks) fun b ob q => Heap.get?_push_of_some _ q
  show wpAny (model X.prog X.w) X.A (subscriptTail e (.Slice none none (some (.UnaryOp .USub (.Constant (.int 1) k p1) p2)) p3) (.str (S z) t) (.ref s4.heap.objs.size)) (EP X pins σ Q) X.xe { s4 with heap := s4.heap.push { cls := .type "slice", data := .fields #[vl, vu, vs] } }
  refine tail_any (ops := [.str (S z) t, .ref s4.heap.objs.size]) (typeIs_str _ _ _) F.slot_str_getitem.lookup ?_ (by with_unfolding_all rfl)
  obtain ⟨l, rfl, el⟩ := IsPart.raw pl
  obtain ⟨u, rfl, eu⟩ := IsPart.raw pu
  obtain ⟨st, rfl, es⟩ := IsPart.raw ps
  refine wpAny_getItem_str_slice (l := l) (u := u) (st := st) ⟨_, Heap.get?_push_size _ rfl, rfl, rfl⟩ (by rw [es]; decide) ?_
  unfold sliceMade slicePicked
  rw [es, el, eu]
  have hr := rev_S z
  show Made.post (.str ⟨((Builtin.Str.strSliceIndices none none (-1) (S z).length).filterMap ((S z).cps[·]?)).toArray⟩) _ _
  rw [hr]
  exact ⟨by rw [S_len, List.length_reverse]; exact hz, .str _, H4, I5.tok _, ⟨_, rfl⟩, q⟩
/-- s * n -/
theorem foldl_arr {α : Type} : ∀ (n : Nat) (w : Array α) (acc : Array α), ((List.replicate n w).foldl (fun a b => a ++ b) acc).toList = acc.toList ++ (List.replicate n w.toList).flatten
  | 0, _, _ => by simp
  | n + 1, w, acc => by
    rw [List.replicate_succ, List.foldl_cons, foldl_arr n w (acc ++ w), List.replicate_succ, List.flatten_cons, Array.toList_append, List.append_assoc]
theorem op_repS : OpR X (binaryOp .Mult) (fun x y H Q => ∃ (z : List Nat) (n : Nat), x = .str (S z) ∧ y = .int n ∧ n ≤ 1000 ∧ z.length ≤ 1000 ∧ Q (.str (S (List.replicate n z).flatten)) H) := by
  intro pins s σ H x y v u Q I rx ry h
  obtain ⟨z, n, rfl, rfl, hn, hz, q⟩ := h
  obtain ⟨t, rfl⟩ := rx
  obtain ⟨t', rfl⟩ := ry
  have hl : (List.replicate n z).flatten.length = n * z.length := by simp
  have hm : n * z.length ≤ 1000 * 1000 := Nat.mul_le_mul hn hz
  refine P.mul_str (by simp; omega) (fun h1 h2 => ?_) (fun h1 h2 => ?_) ?_
  · rw [S_len]
    have hn0 : (0 : Int) < n := by omega
    have h3 : (1000 : Int) ≤ (2 ^ 63 - 1) / (n : Int) := by
      refine (Int.le_ediv_iff_mul_le hn0).mpr ?_
      have : (1000 : Int) * n ≤ 1000 * 1000 := Int.mul_le_mul_of_nonneg_left (by omega) (by decide)
      omega
    omega
  · rw [S_len, Int.toNat_natCast, Nat.mul_comm]
    have : n * z.length ≤ sizeLine := by rw [sizeLine_eq]; omega
    unfold Builtin.Str.tooLong
    simp
    omega
  · by_cases h1 : (n : Int) < 1
    · rw [if_pos h1]
      have e : n = 0 := by omega
      subst e
      exact ⟨by decide, .str _, H, I.tok _, ⟨_, rfl⟩, q⟩
    · rw [if_neg h1]
      by_cases h2 : ((n : Int) == 1 || (S z).length == 0) = true
      · rw [if_pos h2]
        have e : (List.replicate n z).flatten = z := by
          rw [Bool.or_eq_true, beq_iff_eq, beq_iff_eq, S_len] at h2
          rcases h2 with h2 | h2
          · have : n = 1 := by omega
            subst this
            simp
          · rw [List.length_eq_zero_iff.mp h2]
            simp
        rw [e] at q
        exact ⟨.str _, H, I, ⟨_, rfl⟩, q⟩
      · rw [if_neg h2]
        have e : (⟨(List.replicate (n : Int).toNat (S z).cps).foldl (· ++ ·) #[]⟩ : Str) = S (List.replicate n z).flatten := by
          refine TL.ext_tl ?_
          show ((List.replicate (n : Int).toNat (S z).cps).foldl (· ++ ·) #[]).toList = _
          rw [Int.toNat_natCast, foldl_arr]
          rfl
        rw [e]
        exact ⟨by rw [S_len, hl, sizeLine_eq]; omega, .str _, H, I.tok _, ⟨_, rfl⟩, q⟩
/-- a % b, a // b of natural numbers -/
theorem fmodN (k n : Nat) : Int.fmod (k : Int) (n : Int) = ((k % n : Nat) : Int) := by
  rw [Int.fmod_eq_emod_of_nonneg _ (by omega)]
  rfl
theorem op_modZ : OpR X (binaryOp .Mod) (fun x y H Q => ∃ (k n : Nat), x = .int k ∧ y = .int n ∧ n ≠ 0 ∧ Q (.int ((k % n : Nat) : Int)) H) := by
  intro pins s σ H x y v u Q I rx ry h
  obtain ⟨k, n, e1, e2, h0, q⟩ := h
  refine op_modN pins s σ H x y v u Q I rx ry ⟨_, _, e1, e2, by omega, ?_⟩
  rw [← fmodN] at q
  exact q
theorem op_fdivZ : OpR X (binaryOp .FloorDiv) (fun x y H Q => ∃ (k n : Nat), x = .int k ∧ y = .int n ∧ n ≠ 0 ∧ n < 2 ^ 29 ∧ Q (.int ((k / n : Nat) : Int)) H) := by
  intro pins s σ H x y v u Q I rx ry h
  obtain ⟨k, n, e1, e2, h0, h1, q⟩ := h
  refine op_fdivN pins s σ H x y v u Q I rx ry ⟨_, _, e1, e2, ⟨by omega, by omega⟩, ?_⟩
  have : Int.fdiv (k : Int) (n : Int) = ((k / n : Nat) : Int) := by
    rw [Int.fdiv_eq_ediv_of_nonneg _ (by omega)]
    rfl
  rw [← this] at q
  exact q
theorem op_mulZ : OpR X (binaryOp .Mult) (fun x y H Q => ∃ (k n : Nat), x = .int k ∧ y = .int n ∧ k < 2 ^ 1000 ∧ n < 2 ^ 1000 ∧ Q (.int ((k * n : Nat) : Int)) H) := by
  intro pins s σ H x y v u Q I rx ry h
  obtain ⟨k, n, e1, e2, h0, h1, q⟩ := h
  refine op_mulW pins s σ H x y v u Q I rx ry ⟨_, _, e1, e2, wide_mul (a := 1000) (b := 1000) h0 h1 (by decide) (by decide) (by decide), ?_⟩
  rw [Int.natCast_mul] at q
  exact q
/-- len of a list that is tracked (it may stand in a comprehension) -/
theorem call_lenH : CallR X (.builtin "len") (fun xs H Q => ∃ (p : Addr) (ys : List V), xs = [.ref p] ∧ H p = some (.lst ys) ∧ Q (.int (ys.length : Nat)) H) := by
  intro pins s σ H xs us Q I r h
  obtain ⟨p, ys, e, hp, q⟩ := h
  exact call_len_seq pins s σ H xs us Q I r ⟨p, ys, e, .inl (.inl (.inl hp)), q⟩
end
end CK

set_option Elab.async false
set_option linter.all false
set_option maxRecDepth 100000
set_option maxHeartbeats 2000000
/-! any of a tuple of numbers -/
namespace CK
open PySem PySem.Spec PyProof.Rows L2 SX
theorem plain_ints : ∀ ns : List Int, PyData.plainAll (ns.map PyData.int) = true
  | [] => by simp [PyData.plainAll]
  | n :: ns => by
    rw [List.map_cons, PyData.plainAll, plain_ints ns]
    simp [PyData.plain]
theorem any_ints (ns : List Nat) : ((ns.map fun n : Nat => ((n : Nat) : Int)).map PyData.int).any PyData.truthy = ns.any fun x => decide (x ≠ 0) := by
  induction ns with
  | nil => rfl
  | cons n ns ih =>
    rw [List.map_cons, List.map_cons, List.any_cons, List.any_cons, ih]
    congr 1
    show ((n : Int) != 0) = decide (n ≠ 0)
    by_cases h : n = 0
    · subst h
      rfl
    · rw [decide_eq_true h, bne_iff_ne]
      omega
section
variable {X : Cx}
theorem cr_anyN (hc : X.calm = true) : CallR X (.builtin "any") (fun vs H Q => ∃ (a : Addr) (ns : List Nat), vs = [V.ref a] ∧ H a = some (.tup (ns.map fun n : Nat => V.int (n : Nat))) ∧ Q (.bl (ns.any fun x => decide (x ≠ 0))) H) := by
  intro pins s σ H vs us Q I r h
  obtain ⟨a, ns, rfl, ha, q⟩ := h
  obtain ⟨its, rv, hT, _⟩ := I.tuple (.inl (.inl ha))
  rw [Vals.ref1 r]
  have e : (ns.map fun n : Nat => V.int (n : Nat)) = (ns.map fun n : Nat => ((n : Nat) : Int)).map V.int := by
    rw [List.map_map]
    rfl
  rw [e] at rv
  obtain ⟨as, hr⟩ := Dp.readsAll I _ _ its (dpAll_ints _) rv
  refine PySem.W.any_tuple_data (I.ok.hd hc) hT (by rw [List.toList_toArray]; exact hr) (plain_ints _) (fun x hx => ?_) fun h' tk hk => ?_
  · obtain ⟨i, _, rfl⟩ := List.mem_map.mp hx
    trivial
  · rw [any_ints]
    exact ⟨.bl _, H, I.kept (t' := tk) hk, rfl, q⟩
end
end CK
namespace CK
open PySem PySem.Spec PyProof.Rows L2 SX
section
variable {X : Cx}
/-- a whole number and a Boolean -/
theorem op_addB : OpR X (binaryOp .Add) (fun x y H Q => ∃ (i : Int) (b : Bool), x = .int i ∧ y = .bl b ∧ Q (.int (i + if b = true then (1 : Int) else 0)) H) := by
  intro pins s σ H x y v u Q I rx ry h
  obtain ⟨i, b, rfl, rfl, q⟩ := h
  obtain ⟨t, rfl⟩ := rx
  obtain rfl : u = Value.bool b := ry
  exact add_int_bool ⟨.int _, H, I.tok _, ⟨_, rfl⟩, q⟩
end
end CK
namespace CK
open PySem PySem.Spec PyProof.Rows L2 SX
theorem vals_of_get : ∀ (vs : List V) (us : List Value), us.length = vs.length → (∀ (j : Nat) (v : V) (u : Value), vs[j]? = some v → us[j]? = some u → RelV v u) → Vals vs us
  | [], [], _, _ => .nil
  | [], _ :: _, h, _ => by simp at h
  | _ :: _, [], h, _ => by simp at h
  | v :: vs, u :: us, h, g => .cons (g 0 v u rfl rfl) (vals_of_get vs us (by simpa using h) fun j a b ha hb => g (j + 1) a b (by simpa using ha) (by simpa using hb))
section
variable {X : Cx}
/-- list(text): its letters -/
theorem call_listS (hc : X.calm = true) : CallR X (.type "list") (fun xs H Q => ∃ z : List Nat, xs = [.str (S z)] ∧ z.length ≤ 1000000 ∧ ∀ l, H l = none → Q (.ref l) (upd H l (.lst (z.map fun c => V.str (S [c]))))) := by
  intro pins s σ H xs us Q I r h
  obtain ⟨z, rfl, hz, q⟩ := h
  obtain ⟨u, rfl, rx⟩ := vals1 r
  obtain ⟨t, rfl⟩ := rx
  have sz : (S z).cps.size = z.length := S_len z
  refine call_list_str (I.ok.hd hc) (S z) t (fun h' tk acc' c' hk hS hacc => ?_) (by rw [sz, sizeLine_eq]; omega)
  refine ⟨.ref s.heap.objs.size, upd H s.heap.objs.size (.lst (z.map fun c => V.str (S [c]))), I.laid (t' := tk) hk (Nat.le_refl _) ?_, rfl, q _ (I.hok.fresh (Nat.le_refl _))⟩
  refine ⟨by rw [List.length_map, sizeLine_eq]; omega, acc'.toList, c', vals_of_get _ _ (by rw [List.length_map, Array.length_toList, hacc.1, sz]) fun j v u hv hu => ?_, by simpa using hS⟩
  obtain ⟨c, tt, hc', rfl⟩ := hacc.2 j u (by simpa using hu)
  rw [List.getElem?_map] at hv
  have e : z[j]? = some c := by
    have : (S z).cps[j]? = some c := hc'
    simpa [S] using this
  rw [e] at hv
  cases hv
  exact ⟨tt, rfl⟩
end
end CK
namespace CK
open PySem PySem.Spec PyProof.Rows L2 SX
section
variable {X : Cx} {o e : Expr} {es : List Expr} {to : TE} {t : TA} {name : Str} {apos cpos : Pos} {T id : String} {r : V → List V → Hp → VK → Prop}
/-- a built-in's method, where the written part is told apart (it may stand in a comprehension) -/
theorem pe_bmB {K : PySem.W.Frag} (hK : X.K = K) (pa : PlainAttrs T) (slot : Slot T name id) (hty : typeOf (.builtin id) = pure (.type "method_descriptor")) (hm : MtR X id r) (ho : PE X o to) (ha : PA X (e :: es) t)
    (hb : attributeBase o name X.env (eval o X.env) = eval o X.env := by rfl)
    (hf : ((backTo cpos (starEach (e :: es) X.env)).all (fun x => !x.1) && (backToKw cpos (keywordEach [] X.env)).all (fun x => x.1.isSome) && decide ((e :: es).length + ([] : List Keyword).length + (if ([] : List Keyword).isEmpty then 0 else 1) < 30)) = true := by rfl)
    (hl : (apos.endLine == cpos.line) = true := by rfl) (hs : starEach (e :: es) X.env = (false, eval e X.env) :: starEach es X.env := by rfl) (hp : (backTo cpos (starEach es X.env)).any (·.1) = false := by rfl) :
    PE X (.Call (.Attribute o name apos) (e :: es) [] cpos) (tBM K T r to t) := by
  subst hK
  exact pe_bm pa slot hty hm ho ha hb hf hl hs hp
end
end CK

set_option Elab.async false
set_option linter.all false
set_option maxRecDepth 100000
set_option maxHeartbeats 2000000
/-! defs that are called with no repr under way; repr of data -/
namespace CK
open PySem PySem.Spec PyProof.Rows L2
/-- what a def promises where no repr is under way -/
structure FnG (P : Program) (w : World) (K : PySem.W.Frag) (mg : Str → Option Value) (base : Heap) (k : Nat) (f : Addr) (fd : FuncData) (ps : List Str) (sp : Sp) : Prop where
  len : ∀ vs H Q E, sp vs H Q E → vs.length = ps.length
  go : ∀ (A : Around) (outer : List Env) (z : Shared) (H : Hp) (args : Args) (us : List Value) (vs : List V) (Q : VK) (E : XK), Room k A → A.guards = some [] → Env0 P w K mg base A outer z H → BindsTo z fd args (ps.zip us) →
    Vals vs us → sp vs H Q E → codeAny (model P w) A (.call (.ref f) args) (CR C8.CX0 outer P w H z Q E) z
theorem FnG.of {P : Program} {w : World} {K : PySem.W.Frag} {mg : Str → Option Value} {base : Heap} {k : Nat} {f : Addr} {fd : FuncData} {ps : List Str} {sp : Sp} (F : FnOk P w K mg base C8.CX0 k f fd ps sp) : FnG P w K mg base k f fd ps sp :=
  ⟨F.len, fun A outer z H args us vs Q E hr _ e0 hb r h => F.run A outer z H args us vs Q E hr e0 hb r h⟩
theorem fnG_of {P : Program} {w : World} {K : PySem.W.Frag} {mg : Str → Option Value} {base : Heap} {k : Nat} {f : Addr} {x : Str} {st : Stmt} {fd : FuncData} {N ps : List Str} {sp : Sp} (F : C8.Fun K x x st f fd) (S : FnScope N ps (C8.fnScope st))
    (len : ∀ vs H Q E, sp vs H Q E → vs.length = ps.length)
    (body : ∀ (cdv : Value) (A : Around) (outer : List Env) (z : Shared) (H : Hp) (vs : List V) (Q : VK) (E : XK), Room k (A.deeper (envOfC x (C8.fnScope st) z.heap.objs.size f cdv)) → A.guards = some [] → sp vs H Q E →
      ∃ t, PSs (cxOf C8.CX0 P w K mg base N x (C8.fnScope st) f cdv A outer z H E).nox (C8.fnBody st) t ∧ t { nx := fun _ H' => Q .non H', rt := Q } (start N vs) H) : FnG P w K mg base (k + 1) f fd ps sp := by
  obtain ⟨_, _, _, _, _, _, _, cdv, _, _, rfl, lk, hc⟩ := F.ex
  refine ⟨len, fun A outer z H args us vs Q E room gd en bnd va want => ?_⟩
  have ln := len _ _ _ _ want
  have up : ∀ b o, base.get? b = some o → z.heap.get? b = some o := fun b o e => (en.bs b o e).1
  have inK : K.In z.heap := en.mod.kin.keeps up
  have kinds : ∀ y ∈ ps.zip us, (C8.fnScope st).names.lookup y.1 = some .local ∨ ((C8.fnScope st).names.lookup y.1 = some .cell ∧ ((cellsFrom (z.heap.objs.size + 1) (C8.fnScope st).names []).lookup y.1).isSome = true) := by
    intro y hy
    have := S.par y.1 (List.of_mem_zip (a := y.1) (b := y.2) hy).1
    cases this with
    | inl a => exact .inl a
    | inr a => exact .inr ⟨a, PySem.W.cellsFrom_some _ _ _ (.inl a)⟩
  refine codeAny_call_function room.depth (inK _ _ lk) rfl S.co S.gen rfl (PySem.W.codeRec_of inK hc) (bnd _ _ _ _ (wpAny_newFunctionEnv_cells S.kind kinds fun env he z1 call => ?_))
  subst he
  refine ⟨(en.mod.nolimit.keeps up).keeps call.toInCall.keep, codeAny_func ?_⟩
  obtain ⟨t, ht, ok⟩ := body cdv A outer z H vs Q E (room.deeper _) gd want
  refine wpAny_mono (ht.nox.run [] z1 (start N vs) H _ (inv_start S room.hd en ln va call) ok) (fun fl z' got => ?_) fun e z' got => got
  have last : ∀ {σ' : L2.St} {H' : Hp} {v : V} {u : Value}, Inv (cxOf C8.CX0 P w K mg base N x (C8.fnScope st) f cdv A outer z H E) [] σ' H' z' → RelV v u → Q v H' → CE outer P w H z Q u z' :=
    fun {_ H' v _} J a b => ⟨v, H', J.os, J.bare, J.base, J.hok, a, b⟩
  cases fl with
  | ret u =>
    obtain ⟨v, _, H', J, a, b⟩ := got
    exact last J a b
  | next =>
    obtain ⟨_, H', J, b⟩ := got
    exact last (v := V.non) (u := Value.none) J rfl b
  | brk => exact got.choose_spec.choose_spec.2.elim
  | cont => exact got.choose_spec.choose_spec.2.elim
/-- a def by its name -/
structure CalG (P : Program) (w : World) (K : PySem.W.Frag) (mg : Str → Option Value) (base : Heap) (k : Nat) (x : Str) (sp : Sp) : Prop where
  ex : ∃ (f : Addr) (fd : FuncData) (ps : List Str), FnG P w K mg base k f fd ps sp ∧ mg x = some (.ref f) ∧ PySem.W.keepIn K (.ref f) = true ∧ Binds K fd ps []
theorem calG {P : Program} {w : World} {K : PySem.W.Frag} {mg : Str → Option Value} {base : Heap} {x : Str} {st : Stmt} {N ps : List Str} {k : Nat} {sp : Sp} (D : DefF K mg x st ps) (S : FnScope N ps (C8.fnScope st))
    (len : ∀ vs H Q E, sp vs H Q E → vs.length = ps.length)
    (body : ∀ (f : Addr) (cdv : Value) (A : Around) (outer : List Env) (z : Shared) (H : Hp) (vs : List V) (Q : VK) (E : XK), Room k (A.deeper (envOfC x (C8.fnScope st) z.heap.objs.size f cdv)) → A.guards = some [] → sp vs H Q E →
      ∃ t, PSs (cxOf C8.CX0 P w K mg base N x (C8.fnScope st) f cdv A outer z H E).nox (C8.fnBody st) t ∧ t { nx := fun _ H' => Q .non H', rt := Q } (start N vs) H) : CalG P w K mg base (k + 1) x sp := by
  obtain ⟨f, fd, F, b⟩ := D.ex
  exact ⟨f, fd, ps, fnG_of F.fn S len (body f), F.mgf, F.kp, .all b⟩
section
variable {X : Cx} {k j : Nat} {x : Str} {sp : Sp} {p pos : Pos} {e : Expr} {es : List Expr} {t : TA}
theorem run_fnG {pins : List (Addr × Obj)} {σ : L2.St} {H : Hp} {z : Shared} {Q : VK} {us : List Value} {vs : List V} {f : Addr} {fd : FuncData} {ps : List Str} (F : FnG X.prog X.w X.K X.mg X.base k f fd ps sp) (room : Room k X.A) (gd : X.A.guards = some [])
    (b : Binds X.K fd ps []) (I : Inv X pins σ H z) (r : Vals vs us) (h : sp (vs ++ []) H Q E0) : wpAny (model X.prog X.w) X.A (call (.ref f) us) (EP X pins σ Q) X.xe z := by
  rw [List.append_nil] at h
  have ll : (us ++ []).length = ps.length := by
    rw [List.append_nil, ← r.length]
    exact F.len _ _ _ _ h
  have bb := b z us I.kIn ll
  rw [List.append_nil] at bb
  refine wpAny_call (codeAny_mono (F.go X.A X.stack z H ⟨us, []⟩ us vs Q E0 room gd I.env0 bb r h) fun res z' got => ?_)
  match res, got with
  | .ok (.ret u), got => exact I.after got
  | .error e, got => exact pass0 pins σ H z e z' I got
theorem pe_cG (c : CalG X.prog X.w X.K X.mg X.base k x sp) (hr : Room j X.A) (gd : X.A.guards = some []) (hk : k ≤ j) (hg : Gl X x) (ha : PA X (e :: es) t)
    (hdb : (x == ("__debug__" : Str)) = false := by decide) (he : starEach (e :: es) X.env = (false, eval e X.env) :: starEach es X.env := by rfl) (hpl : (backTo pos (starEach es X.env)).any (·.1) = false := by rfl) :
    PE X (.Call (.Name x p) (e :: es) [] pos) (tCall sp [] E0 t) := by
  obtain ⟨f, fd, ps, F, hm, kp, b⟩ := c.ex
  refine ⟨fun pins s σ H Q I h => wpAny_Call_Name_kw (ld_glob I hg hm ?_ hdb)⟩
  exact PySem.W.callWith_K (h₀ := X.base) I.ok.mod.kin kp (thn (ha.run pos pins s σ H _ I h) fun us s1 ⟨vs, H1, I1, r, q⟩ => ⟨I1.kIn, run_fnG F (hr.mono hk) gd b I1 r q⟩) he hpl
theorem pe_cG0 (c : CalG X.prog X.w X.K X.mg X.base k x sp) (hr : Room j X.A) (gd : X.A.guards = some []) (hk : k ≤ j) (hg : Gl X x)
    (hdb : (x == ("__debug__" : Str)) = false := by decide) :
    PE X (.Call (.Name x p) [] [] pos) (tCall sp [] E0 tNil) := by
  obtain ⟨f, fd, ps, F, hm, kp, b⟩ := c.ex
  refine ⟨fun pins s σ H Q I h => wpAny_Call_Name_kw (ld_glob I hg hm ?_ hdb)⟩
  exact PySem.W.callWith_K0 I.kIn kp (run_fnG (us := []) F (hr.mono hk) gd b I .nil h)
/-- repr of data -/
theorem call_repr (hr : Room j X.A) (gd : X.A.guards = some []) : CallR X (.builtin "repr") (fun xs H Q => ∃ (v : V) (d : PyData), xs = [v] ∧ Dp X.K H v d ∧ d.showable = true ∧ d.hasDict = false ∧ d.depth ≤ 60 ∧ d.shown.length ≤ sizeLine ∧ Q (.str d.shown) H) := by
  intro pins s σ H xs us Q I r h
  obtain ⟨v, d, rfl, dp, hs, hd, hdep, hz, q⟩ := h
  obtain ⟨u, rfl, rx⟩ := vals1 r
  obtain ⟨as, rd⟩ := Dp.reads I d v u dp rx
  have hu := hr.units
  have fin : ∀ (a : Addr) (d : PyData), Reads s.heap (.ref a) d as → d.showable = true → d.hasDict = false → d.depth ≤ 60 → d.shown.length ≤ sizeLine → Q (.str d.shown) H →
      wpAny (model X.prog X.w) X.A (call (.builtin "repr") [.ref a]) (EP X pins σ Q) X.xe s := fun a d rd hs hd hdep hz q =>
    repr_of_reads' rd hs (PyData.noDict_hsm hd) gd (by omega) (fun _ _ e => e) (fun h' u tk hk => ⟨.str _, H, I.kept (t' := tk) hk, ⟨u, rfl⟩, q⟩) hz
  cases rd with
  | none => exact PySem.P.repr_of_none ⟨.str _, H, I.tok _, ⟨_, rfl⟩, by simpa only [PyData.shown] using q⟩
  | bool b => exact PySem.P.repr_of_bool ⟨.str _, H, I.tok _, ⟨_, rfl⟩, by simpa only [PyData.shown] using q⟩
  | int i t => exact PySem.P.repr_of_int (by simpa [PyData.showable] using hs) ⟨.str _, H, I.tok _, ⟨_, rfl⟩, by simpa only [PyData.shown] using q⟩
  | str y t => exact PySem.P.repr_of_str ⟨.str _, H, I.tok _, ⟨_, rfl⟩, by simpa only [PyData.shown] using q⟩ (by simpa only [PyData.shown] using hz)
  | list a b c e => exact fin _ _ (.list a b c e) hs hd hdep hz q
  | tuple a b c e => exact fin _ _ (.tuple a b c e) hs hd hdep hz q
  | dict a b c e g => exact fin _ _ (.dict a b c e g) hs hd hdep hz q
end
end CK

set_option Elab.async false
set_option linter.all false
set_option maxRecDepth 100000
set_option maxHeartbeats 2000000
/-! comprehensions with a test; equality of data made of whole numbers -/
namespace CK
open PySem PySem.Spec PyProof.Rows L2
/-- n turns, each kept if b i, giving f i, leaving all that was tracked -/
theorem lc_filtW {J : It} {n : Nat} {G : Hp → Prop} {Y : Nat → Hp → V → Hp → Prop} (w : Walk J n G Y) {g : TG} {tt : TT} {te : TE} {vs : List Nat} {σ : L2.St} {H1 : Hp} {D : Addr} {Qd : Hp → Prop} (b : Nat → Bool) (f : Nat → V) (hn : n < sizeLine)
    (hG : ∀ H, Same H1 H → G H)
    (hs : ∀ (i : Nat) (x : V) (H H' : Hp) (R : VK) (R0 : Hp → Prop), i < n → Same H1 H → Y i H x H' → (b i = true → ∀ H'', Same H H'' → R (f i) H'') → (b i = false → ∀ H'', Same H H'' → R0 H'') →
      g x (wipe σ vs) H' fun σ2 H2 => wipe σ2 vs = wipe σ vs ∧ tt σ2 H2 fun c H3 => if c = true then te σ2 H3 R else R0 H3)
    (hD : H1 D = none) (hd : ∀ H : Hp, Same H1 H → H D = some (.lst (((List.range n).filter b).map f)) → Qd H) :
    ∃ W : Nat → Nat → Hp → Prop, (∃ m, W 0 m (upd H1 D (.lst []))) ∧ ∀ i m H, W i m H →
      (J.stop i H ∧ Qd H) ∨ (J.go i H ∧ ∃ Nx : Hp → Prop, (∀ H', Nx H' → ∃ m', m' < m ∧ W (i + 1) m' H') ∧ ∀ x H', J.yld i H x H' → g x (wipe σ vs) H' fun σ2 H2 => wipe σ2 vs = wipe σ vs ∧ tt σ2 H2 fun b H3 =>
        if b = true then te σ2 H3 fun y H4 => ∃ acc, H4 D = some (.lst acc) ∧ acc.length < sizeLine ∧ Nx (upd H4 D (.lst (acc ++ [y]))) else Nx H3) := by
  refine lc_it w (fun i H => Same H1 H ∧ H D = some (.lst (((List.range i).filter b).map f)) ∧ i ≤ n) ⟨sameNew hD, upd_same, Nat.zero_le _⟩ (fun i H _ p => hG H p.1) (fun i x H H' hi p y => ?_) fun H p => hd H p.1 p.2.1
  refine hs i x H H' _ _ hi p.1 y (fun hb H'' s => ?_) fun hb H'' s => ?_
  · refine ⟨_, s D _ p.2.1, ?_, same_upd2 hD (p.1.trans s), ?_, hi⟩
    · have := List.length_filter_le b (List.range i)
      rw [List.length_range] at this
      rw [List.length_map]
      omega
    · rw [upd_same, List.range_succ, List.filter_append, List.map_append, List.filter_cons_of_pos hb]
      rfl
  · refine ⟨p.1.trans s, ?_, hi⟩
    rw [s D _ p.2.1, List.range_succ, List.filter_append, List.filter_cons_of_neg (by rw [hb]; exact Bool.false_ne_true), List.filter_nil, List.append_nil]
theorem filt_nil (b : Nat → Bool) (f : Nat → V) (n : Nat) : ((List.range n).filter b).map f = [] ↔ ∀ i, i < n → b i = false := by
  rw [List.map_eq_nil_iff, List.filter_eq_nil_iff]
  constructor
  · intro h i hi
    have := h i (List.mem_range.mpr hi)
    simpa using this
  · intro h i hi
    rw [h i (List.mem_range.mp hi)]
    exact Bool.false_ne_true
/-- over zip -/
theorem lcZ_filt {K : PySem.W.Frag} {k k' : Kd} {a c : Addr} {xs ys : List V} {i1 i2 : Nat} {tt : TT} {te : TE} {vs : List Nat} {σ : L2.St} {H1 : Hp} {D : Addr} {Qd : Hp → Prop} (b : Nat → Bool) (f : Nat → V) (hl : xs.length = ys.length) (hn : xs.length < sizeLine)
    (ha : ∀ H, Same H1 H → SqB K k H a xs ∧ SqB K k' H c ys)
    (hs : ∀ (i : Nat) (x y : V) (H : Hp) (R : VK) (R0 : Hp → Prop), xs[i]? = some x → ys[i]? = some y → Same H1 H → (b i = true → ∀ H', Same H H' → R (f i) H') → (b i = false → ∀ H', Same H H' → R0 H') →
      wipe (((wipe σ vs).set i1 (some x)).set i2 (some y)) vs = wipe σ vs ∧ tt (((wipe σ vs).set i1 (some x)).set i2 (some y)) H fun c H3 => if c = true then te (((wipe σ vs).set i1 (some x)).set i2 (some y)) H3 R else R0 H3)
    (hD : H1 D = none) (hd : ∀ H : Hp, Same H1 H → H D = some (.lst (((List.range xs.length).filter b).map f)) → Qd H) :
    ∃ W : Nat → Nat → Hp → Prop, (∃ m, W 0 m (upd H1 D (.lst []))) ∧ ∀ i m H, W i m H →
      ((ItB K k k' a c).stop i H ∧ Qd H) ∨ ((ItB K k k' a c).go i H ∧ ∃ Nx : Hp → Prop, (∀ H', Nx H' → ∃ m', m' < m ∧ W (i + 1) m' H') ∧ ∀ x H', (ItB K k k' a c).yld i H x H' → gTup K 2 (gCons (gName i1) (gCons (gName i2) gNil)) x (wipe σ vs) H' fun σ2 H2 => wipe σ2 vs = wipe σ vs ∧ tt σ2 H2 fun b H3 =>
        if b = true then te σ2 H3 fun y H4 => ∃ acc, H4 D = some (.lst acc) ∧ acc.length < sizeLine ∧ Nx (upd H4 D (.lst (acc ++ [y]))) else Nx H3) := by
  refine lc_filtW (walkB (K := K) (k := k) (k' := k') (a := a) (b := c) hl) b f hn ha (fun i v H H' R R0 hi s y q q0 => ?_) hD hd
  obtain ⟨T, x, y, rfl, hT, rfl, hx, hy⟩ := y
  have hx : xs[i]? = some x := hx
  have hy : ys[i]? = some y := hy
  have st : Same H (upd H T (.tup [x, y])) := sameNew hT
  exact ⟨T, [x, y], rfl, .inl (.inl upd_same), rfl, x, [y], rfl, y, [], rfl, rfl, hs i x y _ R R0 hx hy (s.trans st) (fun hb H'' s' => q hb H'' (st.trans s')) fun hb H'' s' => q0 hb H'' (st.trans s')⟩
/-- over a list -/
theorem lcL_filt {K : PySem.W.Frag} {a : Addr} {xs : List V} {j : Nat} {tt : TT} {te : TE} {vs : List Nat} {σ : L2.St} {H1 : Hp} {D : Addr} {Qd : Hp → Prop} (b : Nat → Bool) (f : Nat → V) (ha : ∀ H, Same H1 H → SqL K H a xs) (hn : xs.length < sizeLine)
    (hs : ∀ (i : Nat) (x : V) (H : Hp) (R : VK) (R0 : Hp → Prop), xs[i]? = some x → Same H1 H → (b i = true → ∀ H', Same H H' → R (f i) H') → (b i = false → ∀ H', Same H H' → R0 H') →
      wipe ((wipe σ vs).set j (some x)) vs = wipe σ vs ∧ tt ((wipe σ vs).set j (some x)) H fun c H3 => if c = true then te ((wipe σ vs).set j (some x)) H3 R else R0 H3)
    (hD : H1 D = none) (hd : ∀ H : Hp, Same H1 H → H D = some (.lst (((List.range xs.length).filter b).map f)) → Qd H) :
    ∃ W : Nat → Nat → Hp → Prop, (∃ m, W 0 m (upd H1 D (.lst []))) ∧ ∀ i m H, W i m H →
      ((Itl K a).stop i H ∧ Qd H) ∨ ((Itl K a).go i H ∧ ∃ Nx : Hp → Prop, (∀ H', Nx H' → ∃ m', m' < m ∧ W (i + 1) m' H') ∧ ∀ x H', (Itl K a).yld i H x H' → gName j x (wipe σ vs) H' fun σ2 H2 => wipe σ2 vs = wipe σ vs ∧ tt σ2 H2 fun b H3 =>
        if b = true then te σ2 H3 fun y H4 => ∃ acc, H4 D = some (.lst acc) ∧ acc.length < sizeLine ∧ Nx (upd H4 D (.lst (acc ++ [y]))) else Nx H3) := by
  refine lc_filtW (walk_list (K := K) (a := a) (xs := xs)) b f hn ha (fun i v H H' R R0 hi s y q q0 => ?_) hD hd
  obtain ⟨rfl, hx⟩ := y
  exact hs i v H' R R0 hx s q q0
/-- over a tuple -/
theorem lcT_filt {K : PySem.W.Frag} {a : Addr} {xs : List V} {j : Nat} {tt : TT} {te : TE} {vs : List Nat} {σ : L2.St} {H1 : Hp} {D : Addr} {Qd : Hp → Prop} (b : Nat → Bool) (f : Nat → V) (ha : ∀ H, Same H1 H → SqT K H a xs) (hn : xs.length < sizeLine)
    (hs : ∀ (i : Nat) (x : V) (H : Hp) (R : VK) (R0 : Hp → Prop), xs[i]? = some x → Same H1 H → (b i = true → ∀ H', Same H H' → R (f i) H') → (b i = false → ∀ H', Same H H' → R0 H') →
      wipe ((wipe σ vs).set j (some x)) vs = wipe σ vs ∧ tt ((wipe σ vs).set j (some x)) H fun c H3 => if c = true then te ((wipe σ vs).set j (some x)) H3 R else R0 H3)
    (hD : H1 D = none) (hd : ∀ H : Hp, Same H1 H → H D = some (.lst (((List.range xs.length).filter b).map f)) → Qd H) :
    ∃ W : Nat → Nat → Hp → Prop, (∃ m, W 0 m (upd H1 D (.lst []))) ∧ ∀ i m H, W i m H →
      ((Itt K a).stop i H ∧ Qd H) ∨ ((Itt K a).go i H ∧ ∃ Nx : Hp → Prop, (∀ H', Nx H' → ∃ m', m' < m ∧ W (i + 1) m' H') ∧ ∀ x H', (Itt K a).yld i H x H' → gName j x (wipe σ vs) H' fun σ2 H2 => wipe σ2 vs = wipe σ vs ∧ tt σ2 H2 fun b H3 =>
        if b = true then te σ2 H3 fun y H4 => ∃ acc, H4 D = some (.lst acc) ∧ acc.length < sizeLine ∧ Nx (upd H4 D (.lst (acc ++ [y]))) else Nx H3) := by
  refine lc_filtW (walk_tup (K := K) (a := a) (xs := xs)) b f hn ha (fun i v H H' R R0 hi s y q q0 => ?_) hD hd
  obtain ⟨rfl, hx⟩ := y
  exact hs i v H' R R0 hx s q q0
/-- a tuple of the module's own -/
theorem tupF {K : PySem.W.Frag} {h : Heap} {mg : Str → Option Value} {x : Str} {f : Addr} {o : Obj} {its : Array Value} {n : Nat} {xs : List V} (X : K.In h) (G : h.Ns mainGlobals mg) (a : PySem.W.nsIn K mainGlobals x = some (some (.ref f))) (l : K.lookup f = some o)
    (hc : o.cls = .type "tuple") (hd : o.data = .seq its n) (hs : its.size ≤ sizeLine) (hv : Vals xs its.toList) : ∃ a, mg x = some (.ref a) ∧ ∀ H, SqT K H a xs :=
  ⟨f, PySem.W.mg_of X G a, fun H => .inr ⟨o, its, n, l, hc, hd, hs, hv⟩⟩
abbrev TupF (K : PySem.W.Frag) (mg : Str → Option Value) (x : Str) (xs : List V) : Prop := ∃ a, mg x = some (.ref a) ∧ ∀ H, SqT K H a xs
theorem with_tup {K : PySem.W.Frag} {h : Heap} {mg : Str → Option Value} (_ : K.In h) (x : Str) (xs : List V) {R : Prop} (d : TupF K mg x xs) (r : TupF K mg x xs → R) : R := r d
/-! data of whole numbers -/
theorem eqvAll_ints : ∀ f g : List Int, PyData.eqvAll (f.map PyData.int) (g.map PyData.int) = decide (f = g)
  | [], [] => by simp [PyData.eqvAll]
  | [], _ :: _ => by simp [PyData.eqvAll]
  | _ :: _, [] => by simp [PyData.eqvAll]
  | x :: f, y :: g => by
    rw [List.map_cons, List.map_cons, PyData.eqvAll, eqvAll_ints f g]
    simp [PyData.eqv, Bool.beq_eq_decide_eq]
theorem eqv_dI (f g : List Int) : PyData.eqv (dI f) (dI g) = decide (f = g) := by
  unfold dI
  simp only [PyData.eqv, eqvAll_ints]
def dLI (ns : List Int) : PyData := .list (ns.map PyData.int)
theorem eqv_dLI (f g : List Int) : PyData.eqv (dLI f) (dLI g) = decide (f = g) := by
  unfold dLI
  simp only [PyData.eqv, eqvAll_ints]
theorem shaped_dLI (ns : List Int) : SeqAt.shaped (dLI ns) = true := by
  unfold SeqAt.shaped dLI
  rw [PyData.canLay0, lay_ints, PyData.depth, deep_ints]
  decide
theorem dp_lints {K : PySem.W.Frag} {H : Hp} {a : Addr} {ns : List Int} (h : H a = some (.lst (ns.map V.int))) : Dp K H (.ref a) (dLI ns) := .lst (.inl (.inl h)) (dpAll_ints ns)
/-! repr of whole numbers -/
theorem shown_ints : ∀ ns : List Int, (∀ n ∈ ns, n.natAbs.log2 < 1920) → PyData.showableAll (ns.map PyData.int) = true
  | [], _ => by simp [PyData.showableAll]
  | n :: ns, h => by
    rw [List.map_cons, PyData.showableAll, shown_ints ns fun z hz => h z (List.mem_cons_of_mem _ hz)]
    simp [PyData.showable, h n List.mem_cons_self]
theorem noDict_ints : ∀ ns : List Int, PyData.hasDictAll (ns.map PyData.int) = false
  | [] => by simp [PyData.hasDictAll]
  | n :: ns => by
    rw [List.map_cons, PyData.hasDictAll, noDict_ints ns]
    simp [PyData.hasDict]
theorem piled_ints : ∀ ns : List Int, (∀ n ∈ ns, n.natAbs.log2 < 1920) → piled (PyData.shownAll (ns.map PyData.int)) ≤ ns.length * 1923
  | [], _ => Nat.zero_le _
  | n :: ns, h => by
    have a1 := int_text_length_le (a := n) (k := 1920) (by omega) (h n List.mem_cons_self)
    have a2 := piled_ints ns fun z hz => h z (List.mem_cons_of_mem _ hz)
    have a3 : ((toString n : Str)).length = (toString n).length := PySem.ofString_length _
    have e : PyData.shown (.int n) = (toString n : Str) := by simp only [PyData.shown]
    rw [List.map_cons, PyData.shownAll, piled_cons, List.length_cons, e]
    omega
theorem show_dI {ns : List Int} (h : ∀ n ∈ ns, n.natAbs.log2 < 1920) (hl : ns.length ≤ 100) : (dI ns).showable = true ∧ (dI ns).hasDict = false ∧ (dI ns).depth ≤ 60 ∧ (dI ns).shown.length ≤ sizeLine := by
  refine ⟨?_, ?_, by rw [deep_dI]; decide, ?_⟩
  · unfold dI
    rw [PyData.showable]
    exact shown_ints ns h
  · unfold dI
    rw [PyData.hasDict]
    exact noDict_ints ns
  · unfold dI
    rw [PyData.shown]
    have := fmt_text (PyData.shownAll (ns.map PyData.int))
    have := piled_ints ns h
    have : ns.length * 1923 ≤ 100 * 1923 := Nat.mul_le_mul_right _ hl
    rw [sizeLine_eq]
    omega
theorem log_lt {n : Int} (h : n.natAbs < 2 ^ 1900) : n.natAbs.log2 < 1920 := by
  by_cases z : n.natAbs = 0
  · rw [z]
    decide
  · have := (Nat.log2_lt z).mpr h
    omega
end CK

set_option Elab.async false
set_option linter.all false
set_option maxRecDepth 100000
set_option maxHeartbeats 2000000
/-! statements in order, tests that may end the call -/
namespace CK
open PySem PySem.Spec PyProof.Rows L2
theorem seq_cut {t u : TS} {D : Ends} {σ : L2.St} {H : Hp} (Mid : L2.St → Hp → Prop) (h1 : ∀ K : L2.St → Hp → Prop, (∀ σ' H', Mid σ' H' → K σ' H') → t { D with nx := K } σ H) (h2 : ∀ σ' H', Mid σ' H' → u D σ' H') : tSeq t u D σ H := h1 _ h2
/-- a test whose answer is b: what is within, and what follows -/
theorem if_dec {c : TT} {t u : TS} {D : Ends} {σ : L2.St} {H : Hp} (b : Bool) (h : ∀ R : Bool → Hp → Prop, (∀ H', Same H H' → R b H') → c σ H R)
    (yes : b = true → ∀ H', Same H H' → t { D with nx := fun σ' H'' => u D σ' H'' } σ H') (no : b = false → ∀ H', Same H H' → u D σ H') : tSeq (tIfS c t tNext) u D σ H :=
  h _ fun H' s => by
    cases b with
    | true => exact iteT (yes rfl H' s)
    | false => exact iteF (no rfl H' s)
/-- the last test of a block -/
theorem if_end {c : TT} {t u : TS} {D : Ends} {σ : L2.St} {H : Hp} (b : Bool) (h : ∀ R : Bool → Hp → Prop, (∀ H', Same H H' → R b H') → c σ H R)
    (yes : b = true → ∀ H', Same H H' → t D σ H') (no : b = false → ∀ H', Same H H' → u D σ H') : tIfS c t u D σ H :=
  h _ fun H' s => by
    cases b with
    | true => exact iteT (yes rfl H' s)
    | false => exact iteF (no rfl H' s)
theorem if_not {c : TT} {t u : TS} {D : Ends} {σ : L2.St} {H : Hp} (h : ∀ R : Bool → Hp → Prop, (∀ H', Same H H' → R false H') → c σ H R) (r : ∀ H', Same H H' → u D σ H') : tSeq (tIfS c t tNext) u D σ H :=
  h _ fun H' s => iteF (r H' s)
theorem yes_if {σ : L2.St} {H : Hp} {A B : Hp → Prop} (h : A H) : tYes σ H fun b H3 => if b = true then A H3 else B H3 := by
  show (if true = true then A H else B H)
  exact if_pos rfl ▸ h
end CK

set_option Elab.async false
set_option linter.all false
set_option maxRecDepth 100000
set_option maxHeartbeats 2000000
/-! sum of a tuple of numbers -/
namespace CK
open PySem PySem.Spec PyProof.Rows L2 SX
section
variable {prog : Program} {w : World} {A : Around} {E : Value → Shared → Prop} {s : Shared} {l : Addr} {xs : Array (Int × Tok)}
theorem sum_tupG {Q : Value → Shared → Prop} (hh : A.handled = none) (hl : s.heap.IsTuple l (intItems xs))
    (h : ∀ h' tk t', (∀ b o, s.heap.get? b = some o → h'.get? b = some o) → Q (.int (preSum (numAt xs) xs.size) t') { s with heap := h', toks := tk }) :
    wpAny (model prog w) A (call (.builtin "sum") [.ref l]) Q E s := by
  have hlt : l < s.heap.objs.size := by obtain ⟨_, e, _⟩ := hl; exact Heap.lt_size e
  refine call_sum_walkG (wpAny_pyIter_tuple hl ?_)
  refine ⟨_, _, _, _, _, _, numAt xs, rfl, Walks.tuple (A := A.in1) hh _ l (Nat.ne_of_lt hlt) (intItems xs), ⟨⟨_, Heap.get?_push_size _ rfl, rfl, rfl⟩, hl.push _⟩, fun b hb => ?_, (fun _ _ => intItems_at), fun h' tk t' hk => ?_⟩
  · show b < (s.heap.push _).objs.size
    rw [Heap.size_push]
    rcases List.mem_cons.mp hb with rfl | hb
    · exact Nat.lt_succ_self _
    · rcases List.mem_cons.mp hb with rfl | hb
      · exact Nat.lt_succ_of_lt hlt
      · cases hb
  · have := h h' tk t' fun b o e => by
      refine hk b o (fun hm => ?_) (Heap.get?_push_of_some _ e)
      have := List.mem_singleton.mp hm
      have hb := Heap.lt_size e
      rw [this] at hb
      exact absurd hb (Nat.lt_irrefl _)
    simpa [intItems] using this
end
section
variable {X : Cx}
theorem cr_sumT (hc : X.calm = true) : CallR X (.builtin "sum") (fun vs H Q => ∃ (a : Addr) (ns : List Int), vs = [V.ref a] ∧ H a = some (.tup (ns.map V.int)) ∧ Q (.int ns.sum) H) := by
  intro pins s σ H vs us Q I r h
  obtain ⟨a, ns, rfl, ha, q⟩ := h
  obtain ⟨its, rv, hl, _⟩ := I.tuple (.inl (.inl ha))
  rw [Vals.ref1 r]
  have hi := rv.ints
  obtain ⟨xs, e⟩ := hi.allInts.items
  have hn : numsOf (intItems xs).toList = ns := by rw [← e]; exact hi.numsOf
  rw [nums_intItems] at hn
  have hl' : s.heap.IsTuple a (intItems xs) := by rw [← e]; exact hl
  refine sum_tupG (I.ok.hd hc) hl' fun h' tk t' hk => ?_
  have es : preSum (numAt xs) xs.size = ns.sum := by rw [preSum_eq, List.take_of_length_le (by simp), hn]
  rw [es]
  exact ⟨.int _, H, I.kept (t' := tk) hk, ⟨_, rfl⟩, q⟩
end
end CK

set_option Elab.async false
set_option linter.all false
set_option maxRecDepth 100000
/-! a comprehension of two `for`: over a list that the block leaves as it is, within it over a range -/
namespace CK
open PySem PySem.Spec PyProof.Rows L2
/-- what one turn of the outer `for` asks, with Nx behind it -/
abbrev Turn2 (g : TG) (tt : TT) (wi1 : TI) (g1 : TG) (tt1 : TT) (te : TE) (vs vs1 : List Nat) (σ : L2.St) (D : Addr) (x : V) (H' : Hp) (Nx : Hp → Prop) : Prop :=
  g x (wipe σ vs) H' fun σ2 H2 => wipe σ2 vs = wipe σ vs ∧ tt σ2 H2 fun b H3 =>
    if b = true then wi1 σ2 H3 fun J1 H4 => ∃ W1 : Nat → Nat → Hp → Prop, (∃ m, W1 0 m H4) ∧ ∀ j k H, W1 j k H →
      (J1.stop j H ∧ Nx H) ∨ (J1.go j H ∧ ∃ Nx1 : Hp → Prop, (∀ H', Nx1 H' → ∃ k', k' < k ∧ W1 (j + 1) k' H') ∧ ∀ x H', J1.yld j H x H' → g1 x (wipe σ2 vs1) H' fun σ3 H5 => wipe σ3 vs1 = wipe σ2 vs1 ∧ tt1 σ3 H5 fun b H6 =>
        if b = true then te σ3 H6 fun y H7 => ∃ acc, H7 D = some (.lst acc) ∧ acc.length < sizeLine ∧ Nx1 (L2.upd H7 D (.lst (acc ++ [y]))) else Nx1 H6)
    else Nx H3
theorem lc2_list {K : PySem.W.Frag} {a : Addr} {xs : List V} {g : TG} {tt : TT} {wi1 : TI} {g1 : TG} {tt1 : TT} {te : TE} {vs vs1 : List Nat} {σ : L2.St} {H1 : Hp} {D : Addr} {Qd : Hp → Prop} (Pv : Nat → Hp → Prop) (h0 : Pv 0 (L2.upd H1 D (.lst []))) (hl : ∀ i H, i ≤ xs.length → Pv i H → SqL K H a xs)
    (hs : ∀ i x H, xs[i]? = some x → Pv i H → Turn2 g tt wi1 g1 tt1 te vs vs1 σ D x H (Pv (i + 1))) (hd : ∀ H, Pv xs.length H → Qd H) :
    ∃ W : Nat → Nat → Hp → Prop, (∃ m, W 0 m (L2.upd H1 D (.lst []))) ∧ ∀ i m H, W i m H →
      ((Itl K a).stop i H ∧ Qd H) ∨ ((Itl K a).go i H ∧ ∃ Nx : Hp → Prop, (∀ H', Nx H' → ∃ m', m' < m ∧ W (i + 1) m' H') ∧ ∀ x H', (Itl K a).yld i H x H' → Turn2 g tt wi1 g1 tt1 te vs vs1 σ D x H' Nx) := by
  refine ⟨fun i m H => m = xs.length - i ∧ i ≤ xs.length ∧ Pv i H, ⟨xs.length, by simp, Nat.zero_le _, h0⟩, ?_⟩
  rintro i m H ⟨rfl, hi, p⟩
  have q := hl i H hi p
  by_cases hlt : i < xs.length
  · refine .inr ⟨⟨xs, xs[i], q, by simp [hlt]⟩, Pv (i + 1), fun H' p' => ⟨xs.length - (i + 1), by omega, rfl, hlt, p'⟩, fun x H' y => ?_⟩
    obtain ⟨e, y⟩ := y
    subst e
    exact hs i x _ (y xs q) p
  · have e : i = xs.length := by omega
    subst e
    exact .inl ⟨⟨xs, q, Nat.le_refl _⟩, hd H p⟩
/-- the inner `for` over a range -/
theorem in_range {lo : Int} {n : Nat} {g1 : TG} {tt1 : TT} {te : TE} {vs1 : List Nat} {σ2 : L2.St} {H4 : Hp} {D : Addr} {Nx : Hp → Prop} (Pv : Nat → Hp → Prop) (h0 : Pv 0 H4)
    (hs : ∀ i H, i < n → Pv i H → g1 (.int (lo + i)) (wipe σ2 vs1) H fun σ3 H5 => wipe σ3 vs1 = wipe σ2 vs1 ∧ tt1 σ3 H5 fun b H6 =>
      if b = true then te σ3 H6 fun y H7 => ∃ acc, H7 D = some (.lst acc) ∧ acc.length < sizeLine ∧ Pv (i + 1) (L2.upd H7 D (.lst (acc ++ [y]))) else Pv (i + 1) H6) (hd : ∀ H, Pv n H → Nx H) :
    ∃ W1 : Nat → Nat → Hp → Prop, (∃ m, W1 0 m H4) ∧ ∀ j k H, W1 j k H →
      ((Itr lo n).stop j H ∧ Nx H) ∨ ((Itr lo n).go j H ∧ ∃ Nx1 : Hp → Prop, (∀ H', Nx1 H' → ∃ k', k' < k ∧ W1 (j + 1) k' H') ∧ ∀ x H', (Itr lo n).yld j H x H' → g1 x (wipe σ2 vs1) H' fun σ3 H5 => wipe σ3 vs1 = wipe σ2 vs1 ∧ tt1 σ3 H5 fun b H6 =>
        if b = true then te σ3 H6 fun y H7 => ∃ acc, H7 D = some (.lst acc) ∧ acc.length < sizeLine ∧ Nx1 (L2.upd H7 D (.lst (acc ++ [y]))) else Nx1 H6) := by
  refine ⟨fun i m H => m = n - i ∧ i ≤ n ∧ Pv i H, ⟨n, by simp, Nat.zero_le _, h0⟩, ?_⟩
  rintro i m H ⟨rfl, hi, p⟩
  by_cases hlt : i < n
  · refine .inr ⟨hlt, Pv (i + 1), fun H' p' => ⟨n - (i + 1), by omega, rfl, hlt, p'⟩, fun x H' y => ?_⟩
    obtain ⟨e, y⟩ := y
    subst e y
    exact hs i _ hlt p
  · have e : i = n := by omega
    subst e
    exact .inl ⟨Nat.le_refl _, hd H p⟩
end CK

set_option Elab.async false
set_option linter.all false
set_option maxRecDepth 100000
set_option maxHeartbeats 4000000
/-! sorted of any data; sorted(.., key=len) of texts -/
namespace CK
open PySem PySem.Spec PyProof.Rows L2 PySem.W
theorem vals_each : ∀ {xs : List V} {us : List Value}, Vals xs us → EachIs (fun u x => RelV x u) us xs
  | _, _, .nil => .nil
  | _, _, .cons r t => .cons r (vals_each t)
theorem each_vals : ∀ {us : List Value} {xs : List V}, EachIs (fun u x => RelV x u) us xs → Vals xs us
  | _, _, .nil => .nil
  | _, _, .cons r t => .cons r (each_vals t)
section
variable {X : Cx}
/-- sorted(xs), a list of data -/
theorem cr_sortedA (hu : X.A.units + 64 < cLine) : CallR X (.builtin "sorted") (fun vs H Q => ∃ (a : Addr) (xs : List V) (d : V → PyData), vs = [V.ref a] ∧ SqL X.K H a xs ∧ (∀ v ∈ xs, Dp X.K H v (d v)) ∧ AllAlike (xs.map d) ∧ Sortable (xs.map d) ∧ (∀ v ∈ xs, (d v).depth ≤ 60) ∧
    ∀ p, H p = none → Q (.ref p) (upd H p (.lst (xs.mergeSort (dataLe false d))))) := by
  intro pins s σ H vs us Q I r h
  obtain ⟨a, xs, d, rfl, hs, hd, hal, hk, hb, q⟩ := h
  obtain ⟨its, rv, hl, hz⟩ := I.list hs
  rw [Vals.ref1 r]
  have e := vals_each rv
  have er : EachIs (fun v b => ∃ as, Reads s.heap v (d b) as) its xs := by
    have key : ∀ {us : List Value} {ys : List V}, EachIs (fun u x => RelV x u) us ys → (∀ v ∈ ys, v ∈ xs) → EachIs (fun v b => ∃ as, Reads s.heap v (d b) as) us ys := fun h => by
      induction h with
      | nil => intro _; exact .nil
      | cons hr _ ih => intro hm; exact .cons (Dp.reads I _ _ _ (hd _ (hm _ List.mem_cons_self)) hr) (ih fun v hv => hm v (List.mem_cons_of_mem _ hv))
    exact key e fun _ h => h
  refine sorted_data (l := a) (vs := its) (bs := xs) (enc := d) hl.isList e er hal hk hz (fun b hb' => by have := hb b hb'; omega) fun out ho eo => ?_
  obtain ⟨ep, he'⟩ := PyProof.Rows.sortedAll_at s.heap its out.toArray
  have hlen : (xs.mergeSort (dataLe false d)).length ≤ sizeLine := by
    rw [List.length_mergeSort]
    exact hz
  exact ⟨.ref _, upd H (s.heap.objs.size + 1) (.lst (xs.mergeSort (dataLe false d))), I.laid (t' := s.toks) (fun _ _ => PyProof.Rows.sortedAll_old) (Nat.le_succ _) ⟨hlen, out, ep, each_vals eo, he'⟩, rfl, q _ (I.hok.fresh (Nat.le_succ _))⟩
/-- a text's data -/
def dV : V → PyData
  | .str x => .str x
  | _ => .none
theorem alike_strs (zs : List Str) : AllAlike ((zs.map V.str).map dV) := fun d hd d' hd' => by
  rw [List.map_map] at hd hd'
  obtain ⟨x, _, rfl⟩ := List.mem_map.mp hd
  obtain ⟨y, _, rfl⟩ := List.mem_map.mp hd'
  rfl
theorem sortable_strs (zs : List Str) : Sortable ((zs.map V.str).map dV) := .inr fun d hd => by
  rw [List.map_map] at hd
  obtain ⟨x, _, rfl⟩ := List.mem_map.mp hd
  exact ⟨fun h => (nomatch h), fun _ h => (nomatch h)⟩
/-- the order of texts -/
def leS (x y : Str) : Bool := decide (x.cps.toList ≤ y.cps.toList)
theorem sort_strs (zs : List Str) : (zs.map V.str).mergeSort (dataLe false dV) = (zs.mergeSort leS).map V.str := by
  refine (sort_maps V.str fun a _ b _ => ?_).symm
  have := congrFun (congrFun (dataLe_str (β := Str) fun x => x) a) b
  show _ = dataLe false dV (V.str a) (V.str b)
  exact this.symm
/-- sorted(d), a dict whose keys are texts -/
theorem call_sortedDA (hcalm : X.calm = true) (hu : X.A.units + 64 < cLine) : CallR X (.builtin "sorted") (fun xs H Q => ∃ (a : Addr) (kvs : List (Key × V)) (ks : List Str), xs = [.ref a] ∧ Rd H a (.dK kvs) ∧ kvs.map (·.1) = ks.map Sum.inr ∧ ks.length ≤ sizeLine ∧
    ∀ p, H p = none → Q (.ref p) (upd H p (.lst ((ks.mergeSort leS).map V.str)))) := by
  intro pins s σ H xs us Q I r q
  obtain ⟨a, kvs, ks, ex, hd, hks, h64, q⟩ := q
  subst ex
  obtain ⟨u, eu, rx⟩ := vals1 r
  subst eu
  cases rx
  obtain ⟨z, lo, vs, rel, dd⟩ := dk_rd I.hok hd
  obtain ⟨ep, hat⟩ := dd.dictAt
  have hkeys : vs.map (·.1) = ks.map Sum.inr := rel.keys.symm.trans hks
  have hl : vs.length = ks.length := by
    have e := congrArg List.length hkeys
    rw [List.length_map, List.length_map] at e
    exact e
  have h16 : vs.length ≤ sizeLine := by rw [hl]; exact h64
  refine Calls.call_function_entry PyProof.Rows.kind_sorted PyProof.Rows.plain_sorted PyProof.Rows.entry_sorted (PyProof.Rows.args_sorted1 _) ?_
  unfold Builtin.«sorted»
  refine wpAny_bind (m := checkCount "sorted" 1 1 _) (wpAny_pure ?_)
  refine wpAny_bind (PySem.W.kdu_collect (A := X.A.in1) (PySem.W.kdl_dict (knd := mixKind X.prog X.w) (kvs := vs) (ep := ep) lo) (I.ok.hd hcalm) hat h16 fun h' tk acc hk hacc => ?_)
  have hal : acc.toList.length = ks.length := by rw [Array.length_toList, hacc.1, hl]
  have hS : StrsAre acc.toList ks := strs_at hal fun j v e => by
    obtain ⟨k, x, e1, e2⟩ := hacc.2 j v (by rw [← Array.getElem?_toList]; exact e)
    have e3 : (vs.map (·.1))[j]? = some k := by rw [List.getElem?_map, e1]; all_goals rfl
    rw [hkeys, List.getElem?_map] at e3
    cases e4 : ks[j]? with
    | none => rw [e4] at e3; cases e3
    | some y =>
      rw [e4] at e3
      have e5 : Sum.inr y = k := Option.some.inj e3
      subst e5
      obtain ⟨t, ev⟩ := Value.isStrOf_shape (x := y) (v := v) e2
      exact ⟨y, t, rfl, ev⟩
  have I1 : Inv X pins σ H { s with heap := h', toks := tk } := I.kept hk
  refine wpAny_bind (wpAny_newList ?_ (by rw [hal]; exact h64))
  have hoL : (h'.push (seqObj "list" acc.toList.toArray 0)).get? h'.objs.size = some (seqObj "list" acc.toList.toArray 0) := Heap.get?_push_size _ rfl
  show wpAny _ _ _ _ _ { s with heap := h'.push (seqObj "list" acc.toList.toArray 0), toks := tk }
  have ev : EachIs (fun u x => RelV x u) acc.toList (ks.map V.str) := vals_each (vals_of_strs hS)
  have er : ∀ (g : Heap), EachIs (fun v b => ∃ as, Reads g v (dV b) as ∧ h'.objs.size ∉ as) acc.toList (ks.map V.str) := fun g => by
    have key : ∀ {us : List Value} {ys : List Str}, StrsAre us ys → EachIs (fun v b => ∃ as, Reads g v (dV b) as ∧ h'.objs.size ∉ as) us (ys.map V.str) := fun h => by
      induction h with
      | nil => exact .nil
      | cons x t _ ih => exact .cons ⟨[], .str _ _, List.not_mem_nil⟩ ih
    exact key hS
  refine wpAny_bind (wpAny_holding (list_sort_data (s := { s with heap := h'.push (seqObj "list" acc.toList.toArray 0), toks := tk }) (enc := dV) hoL ev (er _) (alike_strs ks) (sortable_strs ks) (by rw [List.length_map]; exact h64) (fun b hb => ?_) fun out ho eo => ?_))
  · obtain ⟨x, _, rfl⟩ := List.mem_map.mp hb
    have e1 : (dV (V.str x)).depth = 0 := rfl
    have e2 : X.A.in1.units = X.A.units + 1 := rfl
    omega
  rw [sort_strs] at eo
  obtain ⟨e', he'⟩ := PyProof.Rows.sortedHeap_at (vs := acc.toList) (out := out.toArray) hoL
  have hlen : ((ks.mergeSort leS).map V.str).length ≤ sizeLine := by
    rw [List.length_map, List.length_mergeSort]
    exact h64
  refine wpAny_pure ⟨_, rfl, .ref h'.objs.size, upd H h'.objs.size (.lst ((ks.mergeSort leS).map V.str)), I1.laid (t' := tk) (fun b u e => ?_) (Nat.le_refl _)
    (show ObjOk X.prog X.w _ _ _ (.lst ((ks.mergeSort leS).map V.str)) from ⟨hlen, out, e', each_vals eo, he'⟩), rfl, q _ (I1.hok.fresh (Nat.le_refl _))⟩
  have hb : b < h'.objs.size := Heap.lt_size e
  rw [PyProof.Rows.sortedHeap_old (Nat.ne_of_lt hb) (by rw [size_push']; exact Nat.lt_succ_of_lt hb)]
  exact Heap.get?_push_of_some _ e
/-- the order by length -/
def leN (x y : Str) : Bool := decide (x.length ≤ y.length)
def lV : V → PyData
  | .str x => .int (x.length : Nat)
  | _ => .none
theorem sort_lens (zs : List Str) : (zs.map V.str).mergeSort (dataLe false lV) = (zs.mergeSort leN).map V.str := by
  refine (sort_maps V.str fun a _ b _ => ?_).symm
  have := congrFun (congrFun (dataLe_int (β := Str) fun x => (x.length : Nat)) a) b
  show _ = dataLe false lV (V.str a) (V.str b)
  refine Eq.trans ?_ this.symm
  exact decide_eq_decide.mpr ⟨fun h => by omega, fun h => by omega⟩
def rSortedLen (K : PySem.W.Frag) : List V → Hp → VK → Prop := fun vs H Q => ∃ (a : Addr) (zs : List Str), vs = [V.ref a] ∧ SqL K H a (zs.map V.str) ∧ (∀ z ∈ zs, z.length ≤ sizeLine) ∧ ∀ p, H p = none → Q (.ref p) (upd H p (.lst ((zs.mergeSort leN).map V.str)))
theorem pe_sortedLen {x y : Str} {p lp kp pos : Pos} {e : Expr} {t : TA} (hu : X.A.units + 64 < cLine) (hg : Gl X x) (hm : X.mg x = none) (hv : bootBuiltins x = some (.builtin "sorted")) (hg' : Gl X y) (hm' : X.mg y = none) (hv' : bootBuiltins y = some (.builtin "len")) (ha : PA X [e] t)
    (hn : x ≠ "__name__" := by decide) (hdb : (x == ("__debug__" : Str)) = false := by decide) (hn' : y ≠ "__name__" := by decide) (hdb' : (y == ("__debug__" : Str)) = false := by decide)
    (he : backTo pos (starEach [e] X.env) = (false, eval e X.env) :: backTo pos (starEach [] X.env) := by rfl) (hpl : (backTo pos (starEach [e] X.env)).any (·.1) = false := by rfl) :
    PE X (.Call (.Name x p) [e] [⟨some "key", .Name y lp, kp⟩] pos) (fun σ H Q => t σ H fun vs H1 => rSortedLen X.K vs H1 Q) := by
  refine ⟨fun pins s σ H Q I h => ?_⟩
  refine wpAny_Call_Name_kw (ld_blt I hg hm hv ?_ hn hdb)
  refine PyProof.Rows.callWith_kw (thn (ha.run pos pins s σ H _ I h) fun us s1 ⟨vs, H1, I1, r1, q1⟩ => ?_) he hpl rfl rfl
  show wpAny _ _ (evalAll ((do let v ← eval (.Name y lp) X.env; standAt pos; pure v) :: [])) _ _ s1
  refine wpAny_evalAll_cons (wpAny_bind (ld_blt I1 hg' hm' hv' (wpAny_bind (wpAny_standAt (wpAny_pure ?_))) hn' hdb'))
  refine wpAny_evalAll_nil ?_
  obtain ⟨a, zs, rfl, hs, hz, q⟩ := q1
  obtain ⟨its, rv, hl, hsz⟩ := I1.list hs
  rw [Vals.ref1 r1]
  show wpAny _ _ (call (.builtin "sorted") [.ref a] [(Str.ofString "key", .builtin "len")]) _ _ s1
  have e := vals_each rv
  refine sorted_key_data (l := a) (vs := its) (bs := zs.map V.str) lV hl.isList e (fun d hd d' hd' => ?_) (.inr fun d hd => ?_) hsz (fun b hb => ?_) (PyProof.Rows.ksk_s1 _ _) (fun _ => PyProof.Rows.ksk_l1 _ _) (fun x => PyProof.Rows.ksk_t4 _ _) (fun v x hr hx h' tk _ => ?_) fun out c h' tk k1 k2 k3 ho eo => ?_
  · rw [List.map_map] at hd hd'
    obtain ⟨x, _, rfl⟩ := List.mem_map.mp hd
    obtain ⟨y, _, rfl⟩ := List.mem_map.mp hd'
    rfl
  · rw [List.map_map] at hd
    obtain ⟨x, _, rfl⟩ := List.mem_map.mp hd
    exact ⟨fun h => (nomatch h), fun _ h => (nomatch h)⟩
  · obtain ⟨z, _, rfl⟩ := List.mem_map.mp hb
    have e1 : (lV (V.str z)).depth = 0 := rfl
    omega
  · obtain ⟨z, hz', rfl⟩ := List.mem_map.mp hx
    obtain ⟨t', rfl⟩ := hr
    have hn := line63
    have := hz z hz'
    exact len_str (by omega) ⟨_, _, rfl, fun _ _ e => e, .int _ _⟩
  · rw [sort_lens] at eo
    have hlen : ((zs.mergeSort leN).map V.str).length ≤ sizeLine := by
      rw [List.length_map, List.length_mergeSort]
      rw [List.length_map] at hsz
      exact hsz
    exact ⟨.ref _, upd H1 (s1.heap.objs.size + 1) (.lst ((zs.mergeSort leN).map V.str)), I1.laid (t' := tk) k1 (Nat.le_succ _) ⟨hlen, out, c, each_vals eo, k3⟩, rfl, q _ (I1.hok.fresh (Nat.le_succ _))⟩
end
end CK

set_option Elab.async false
set_option linter.all false
set_option maxRecDepth 100000
set_option maxHeartbeats 2000000
/-! a tuple of one item, k times, k of at least -1 -/
namespace CK
open PySem PySem.Spec PyProof.Rows L2 SX
theorem mulM1 (l : Addr) (v : Value) (n : Nat) (dd : Option Addr) (sl : Array (Option Value)) (u : Tok) :
    Meets (Builtin.«tuple.__mul__» ⟨[.ref l, .int (-1) u], []⟩) (fun _ R s =>
      s.heap.get? l = some { cls := .type "tuple", dict := dd, data := .seq #[v] n, slots := sl } ∧
      R (.ok (.ret (Value.ref s.heap.objs.size))) { s with heap := s.heap.push { cls := Value.type "tuple", data := Data.seq #[] } }) := by
  refine Meets.of_wp fun prog w A R s h => ?_
  obtain ⟨hq, g, d, tk, o2⟩ := s
  obtain ⟨hl, h⟩ := h
  have f1 := AutoSeq1.idx_int
  wp_walk using wpAny_loadPart' hl
  exact ⟨_, rfl, h⟩
section
variable {X : Cx}
theorem op_repOneZ : OpR X (binaryOp .Mult) (fun x y H Q => ∃ (l : Addr) (k : Int) (v : V), x = .ref l ∧ y = .int k ∧ H l = some (.tup [v]) ∧ -1 ≤ k ∧ k ≤ 1000 ∧
    ∀ p H', Same H H' → H' p = some (.tup (List.replicate k.toNat v)) → Q (.ref p) H') := by
  intro pins s σ H x y xv yv Q I rx ry h
  obtain ⟨l, k, v, rfl, rfl, hl, h0, h1, q⟩ := h
  by_cases hk : k = -1
  · subst hk
    cases rx
    obtain ⟨t, rfl⟩ := ry
    obtain ⟨zs, r, ⟨⟨cl, dd, da, sl⟩, ho, hc, n, hd⟩, hs⟩ := I.tuple (.inl (.inl hl) : SqT X.K H l [v])
    simp only at hc hd
    subst hc hd
    cases r with
    | cons r1 r2 =>
    cases r2
    rename_i u
    refine wpAny_binaryOp_repeat_ref (T := "tuple") (U := "int") (by decide) ⟨_, ho, rfl⟩ (fun s' => typeIs_int s' (-1) t) mulFill F.fills_int_mul F.slot_int_rmul mulSeq F.slot_int_index.lookup
      (call_meets F.slot_int_rmul (typeIs_int s (-1) t) F.entry_int_rmul (F.args_int_rmul_2 _ _) (rmulNo (-1) t l _ n dd sl)
        ⟨ho, rfl, ⟨_, ho, rfl⟩, call_meets F.slot_tuple_mul ⟨_, ho, rfl⟩ F.entry_tuple_mul (F.args_tuple_mul_2 _ _) (mulM1 l _ n dd sl t) ⟨ho, ?_⟩⟩)
    have hn : H s.heap.objs.size = none := I.hok.fresh (Nat.le_refl _)
    refine ⟨.ref s.heap.objs.size, _, I.laid (t' := s.toks) (o := .tup []) (fun b ob q => Heap.get?_push_of_some _ q) (Nat.le_refl _) ?_, rfl, q _ _ (sameNew hn) upd_same⟩
    exact ⟨Nat.zero_le _, [], .nil, IsTup.new _ _⟩
  · exact op_repOne pins s σ H _ _ xv yv Q I rx ry ⟨l, k, v, rfl, rfl, hl, by omega, h1, q⟩
end
end CK

set_option Elab.async false
set_option linter.all false
set_option maxRecDepth 100000
set_option maxHeartbeats 2000000
/-! == of two objects of an own class, by its __eq__, which may say yes or no -/
namespace CK
open PySem PySem.Spec PyProof.Rows L2 SX
section
variable {X : Cx} {k j : Nat} {C : Addr} {sp : Sp}
def rEqO (C : Addr) (sp : Sp) : R2 := fun x y H Q => ∃ a b dx fs dy gs, x = .ref a ∧ y = .ref b ∧ H a = some (.ins C dx fs) ∧ H b = some (.ins C dy gs) ∧ sp [.ref a, .ref b] H (fun v H' => (∃ r, v = .bl r) ∧ Q v H') C8.E0
theorem op_eqO (c : C8.Met X.prog X.w X.K X.mg X.base k C "__eq__" sp []) (hr : Room j X.A) (hk : k ≤ j) : OpR X (compareOp .Eq) (rEqO C sp) := by
  intro pins s σ H x y v u Q I rx ry h
  obtain ⟨a, b, dx, fs, dy, gs, rfl, rfl, ha, hb', hsp⟩ := h
  obtain ⟨f, fd, ps, ds, hc, hm, F, bnd, d⟩ := c.ex
  cases d
  cases rx
  cases ry
  obtain ⟨mA, J, _⟩ := ins_get I.hok ha
  obtain ⟨mB, J', _⟩ := ins_get I.hok hb'
  obtain ⟨od, J, _⟩ := J.look
  obtain ⟨od', J', _⟩ := J'.look
  obtain ⟨m, hF⟩ := I.fr
  have hr' := hr.mono hk
  show wpAny (model X.prog X.w) X.A (richCompare .Eq (.ref a) (.ref b)) (EP X pins σ Q) X.xe s
  refine PySem.W.cmp_K (op := .Eq) (tb := .ref C) hr.units0 hF I.ok.mod.kin J J'.type (by simp [PySem.W.notFirst]) hm.at_ hm.fn ?_
  have hl := F.len _ _ _ _ hsp
  have r2 : Vals [V.ref a, V.ref b] [Value.ref a, Value.ref b] := .cons rfl (.cons rfl .nil)
  refine wpAny_call (codeAny_mono (F.run X.A X.stack s H ⟨[.ref a, .ref b], []⟩ [.ref a, .ref b] [.ref a, .ref b] _ C8.E0 hr' I.env0 (by
    have := bnd s [.ref a, .ref b] I.kIn (by simpa using hl)
    simpa using this) r2 hsp) fun r s' hq => ?_)
  cases r with
  | error e => exact C8.pass0 (E := C8.E0) pins σ H s e s' I hq
  | ok fl =>
    cases fl with
    | ret w =>
      obtain ⟨z, H', I', rz, ⟨r, ez⟩, q⟩ := I.after hq
      subst ez
      cases rz
      exact ⟨.bl r, H', I', rfl, q⟩
    | next => exact False.elim hq
    | brk => exact False.elim hq
    | cont => exact False.elim hq
end
end CK

set_option Elab.async false
set_option linter.all false
set_option maxRecDepth 100000
set_option maxHeartbeats 2000000
/-! dicts whose keys are letters: isinstance, walks locked, comprehensions over keys and over signs -/
namespace CK
open PySem PySem.Spec PyProof.Rows L2 SX
section
variable {X : Cx}
/-- isinstance(d, dict) -/
theorem call_isD : CallR X (.builtin "isinstance") (fun xs H Q => ∃ (a : Addr) (kvs : List (Key × V)), xs = [.ref a, .ty "dict"] ∧ H a = some (.dK kvs) ∧ Q (.bl true) H) := by
  intro pins s σ H xs us Q I r h
  obtain ⟨a, kvs, rfl, e, q⟩ := h
  exact call_isi pins s σ H _ us Q I r ⟨.ref a, .ty "dict", _, _, true, rfl, .ty "dict", .base (.dK e), kit_ty (by decide +kernel), q⟩
theorem room1 {k : Nat} {A : Around} (hr : Room k A) : A.units + 1 < cLine := by
  have := hr.units
  omega
end
theorem same_lock {H H' : Hp} {d : Addr} {od : Obj} {u : HO} (h : H d = some u) (s : Same (upd H d (.frz od u)) H') : H' d = some (.frz od u) ∧ Same H (upd H' d u) := by
  refine ⟨s _ _ upd_same, fun b o e => ?_⟩
  by_cases z : b = d
  · rw [z] at e ⊢
    rw [upd_same, ← h]
    exact e.symm ▸ rfl
  · rw [upd_ne z]
    exact s _ _ (by rw [upd_ne z]; exact e)
theorem lock_same {H H' : Hp} {d : Addr} {od : Obj} {u : HO} (s : Same (upd H d (.frz od u)) H') {b : Addr} {o : HO} (ne : b ≠ d) (e : H b = some o) : H' b = some o := s _ _ (by rw [upd_ne ne]; exact e)
/-- over the signs of a text -/
theorem lcS_map {z : List Nat} {j : Nat} {te : TE} {vs : List Nat} {σ : L2.St} {H1 : Hp} {D : Addr} {Qd : Hp → Prop} (f : Nat → V) (hn : z.length < sizeLine)
    (hs : ∀ (i c : Nat) (H : Hp) (R : VK), z[i]? = some c → Same H1 H → (∀ H', Same H H' → R (f c) H') → wipe ((wipe σ vs).set j (some (.str (S [c])))) vs = wipe σ vs ∧ te ((wipe σ vs).set j (some (.str (S [c])))) H R)
    (hD : H1 D = none) (hd : ∀ H : Hp, Same H1 H → H D = some (.lst (z.map f)) → Qd H) :
    ∃ W : Nat → Nat → Hp → Prop, (∃ m, W 0 m (upd H1 D (.lst []))) ∧ ∀ i m H, W i m H →
      ((Its (S z)).stop i H ∧ Qd H) ∨ ((Its (S z)).go i H ∧ ∃ Nx : Hp → Prop, (∀ H', Nx H' → ∃ m', m' < m ∧ W (i + 1) m' H') ∧ ∀ x H', (Its (S z)).yld i H x H' → gName j x (wipe σ vs) H' fun σ2 H2 => wipe σ2 vs = wipe σ vs ∧ tYes σ2 H2 fun b H3 =>
        if b = true then te σ2 H3 fun y H4 => ∃ acc, H4 D = some (.lst acc) ∧ acc.length < sizeLine ∧ Nx (upd H4 D (.lst (acc ++ [y]))) else Nx H3) := by
  have e : (List.range z.length).map (fun i => f (z.getD i 0)) = z.map f := range_map_get z f _ fun i x h => by rw [List.getD_eq_getElem?_getD, h]; rfl
  refine lc_mapW (n := z.length) (walk_str (z := S z)) (fun i => f (z.getD i 0)) hn (fun H s => True.intro) (fun i x H H' R hi s y q => ?_) hD fun H s q => hd H s (by rw [q, e])
  obtain ⟨rfl, c, hc, rfl⟩ := y
  have hc' : z[i]? = some c := by
    have : (z.toArray)[i]? = some c := hc
    simpa using this
  refine hs i c H' R hc' s fun H'' s' => ?_
  have := q H'' s'
  rw [show z.getD i 0 = c by rw [List.getD_eq_getElem?_getD, hc']; rfl] at this
  exact this
/-- over the keys of a dict, locked -/
theorem lcK_map {d : Addr} {od : Obj} {kvs : List (Key × V)} {j : Nat} {te : TE} {vs : List Nat} {σ : L2.St} {H1 : Hp} {D : Addr} {Qd : Hp → Prop} (f : Nat → V) (hn : kvs.length < sizeLine) (hk : H1 d = some (.frz od (.dK kvs)))
    (hs : ∀ (i : Nat) (k : Key) (v : V) (H : Hp) (R : VK), kvs[i]? = some (k, v) → Same H1 H → (∀ H', Same H H' → R (f i) H') → wipe ((wipe σ vs).set j (some (kV k))) vs = wipe σ vs ∧ te ((wipe σ vs).set j (some (kV k))) H R)
    (hD : H1 D = none) (hd : ∀ H : Hp, Same H1 H → H D = some (.lst ((List.range kvs.length).map f)) → Qd H) :
    ∃ W : Nat → Nat → Hp → Prop, (∃ m, W 0 m (upd H1 D (.lst []))) ∧ ∀ i m H, W i m H →
      ((Itk d od kvs).stop i H ∧ Qd H) ∨ ((Itk d od kvs).go i H ∧ ∃ Nx : Hp → Prop, (∀ H', Nx H' → ∃ m', m' < m ∧ W (i + 1) m' H') ∧ ∀ x H', (Itk d od kvs).yld i H x H' → gName j x (wipe σ vs) H' fun σ2 H2 => wipe σ2 vs = wipe σ vs ∧ tYes σ2 H2 fun b H3 =>
        if b = true then te σ2 H3 fun y H4 => ∃ acc, H4 D = some (.lst acc) ∧ acc.length < sizeLine ∧ Nx (upd H4 D (.lst (acc ++ [y]))) else Nx H3) := by
  refine lc_mapW (walk_keys (d := d) (o := od) (kvs := kvs)) f hn (fun H s => s _ _ hk) (fun i x H H' R hi s y q => ?_) hD hd
  obtain ⟨rfl, k, v, hkv, rfl⟩ := y
  exact hs i k v H' R hkv s q
theorem valV_mem {κ : Type} [DecidableEq κ] : ∀ {kvs : List (κ × V)} {k : κ} {v : V}, valV kvs k = some v → (k, v) ∈ kvs
  | p :: r, k, v, h => by
    by_cases e : p.1 = k
    · rw [valV_pos e] at h
      cases h
      rw [← e]
      exact List.mem_cons_self
    · rw [valV_neg e] at h
      exact List.mem_cons_of_mem _ (valV_mem h)
theorem valV_some {κ : Type} [DecidableEq κ] : ∀ {kvs : List (κ × V)} {k : κ} {v : V}, (k, v) ∈ kvs → ∃ u, valV kvs k = some u
  | p :: r, k, v, h => by
    by_cases e : p.1 = k
    · exact ⟨_, valV_pos e⟩
    · rcases List.mem_cons.mp h with z | z
      · exact absurd (by rw [← z]) e
      · obtain ⟨u, hu⟩ := valV_some z
        exact ⟨u, by rw [valV_neg e]; exact hu⟩
end CK

set_option Elab.async false
set_option linter.all false
set_option maxRecDepth 100000
set_option maxHeartbeats 4000000
/-! name = {k: v for ..}; the same over a list, over the keys of a locked dict; a list over such keys -/
namespace CK
open PySem PySem.Spec PyProof.Rows L2
section
variable {X : Cx}
theorem ps_setDc {i : Nat} {y : Str} {py : Pos} {kx vx tg iter : Expr} {ifs : List Expr} {scope : Scope} {own : List (Str × Nat)} {pos spos : Pos} {wi : TI} {g : TG} {tt : TT} {tk tv : TE} (hc : X.calm = true) (hN : X.N.Nodup) (hy : X.N[i]? = some y) (hyl : X.env.scope.names.lookup y = some .local)
    (hsw : swapsWith (.DictComp kx vx [⟨tg, iter, ifs, 0⟩] scope pos) (some (.Name y py)) spos.line X.env = pure true) (hi : PI X tg iter wi) (ok : BlkOk X.N X.env.scope scope own)
    (hg : ∀ (s : Shared) (H : Hp) (C : Addr) (cl : List (Str × Addr)) (fp : List Addr), PG (X.blk s H scope (compEnvC scope cl C X.env) fp) tg g) (ht : ∀ (s : Shared) (H : Hp) (C : Addr) (cl : List (Str × Addr)) (fp : List Addr), PTs (X.blk s H scope (compEnvC scope cl C X.env) fp) ifs tt)
    (hk : ∀ (s : Shared) (H : Hp) (C : Addr) (cl : List (Str × Addr)) (fp : List Addr), PE (X.blk s H scope (compEnvC scope cl C X.env) fp) kx tk)
    (he : ∀ (s : Shared) (H : Hp) (C : Addr) (cl : List (Str × Addr)) (fp : List Addr), PE (X.blk s H scope (compEnvC scope cl C X.env) fp) vx tv) (hs : ∀ x, foldedSetIterable iter X.env x = pure x := by intro _; rfl) :
    PS X (.Assign [.Name y py] (.DictComp kx vx [⟨tg, iter, ifs, 0⟩] scope pos) spos) (tAsg (tDc wi g tt tk tv (own.map (·.2))) (gName i)) := by
  refine ⟨fun pins s σ H D I h => ?_⟩
  rw [exec_Assign_Name_used _ _ _ _ hsw]
  refine wpAny_bind (wpAny_standAt (wpAny_bind ?_))
  show wpAny _ X.A (do let _ ← comprehension (.DictComp kx vx [⟨tg, iter, ifs, 0⟩] scope pos) scope X.env (firstIterPos [⟨tg, iter, ifs, 0⟩] pos) newDict false (eval iter X.env) (some (assign (.Name y py) X.env))) _ _ s
  have h : tDc wi g tt tk tv (own.map (·.2)) σ H (fun x H1 => gName i x σ H1 D.nx) := h
  refine wpAny_bind (thn (dc_core (Qf := fun _ s' => SP X pins D .next s') hc hN I hi ok hg ht hk he hs h fun L C s' m H' I' q hn f => ?_) fun _ s' hq => wpAny_pure (wpAny_pure hq))
  show wpAny _ _ (assign (.Name y py) X.env (.ref L)) _ _ _
  refine wpAny_assign_Name (store_ok2 (v := V.ref L) I' hN hy (.inl hyl) rfl (fun s2 I2 ⟨a, sb, ha⟩ => ?_) (.inr hyl))
  obtain ⟨f0, f1, f2, f3, f4, f5⟩ := f
  have haC : C ≠ a := by
    rcases ha with z | z
    · rw [z]; exact f1
    · exact fun e => f4 y a z e.symm
  refine ⟨m, hn.sameBut sb haC, fun h3 sb3 => ?_⟩
  exact ⟨_, H', I2.turned (t' := s2.toks) (fun b o hb e => (sb3.2 b hb).trans e) f0 f1 f3 f4 f5, q⟩
theorem sw_trueD {kx vx : Expr} {gs : List Comprehension} {scope : Scope} {pos py : Pos} {y : Str} {l : Nat} {env : Env} (hk : env.scope.kind = .function) (hy : env.scope.names.lookup y = some .local) (hl : (py.line == pos.line) = true)
    (ha : (scope.names.any fun (n, k) => n == y && (k == .local || k == .cell)) = false) : swapsWith (.DictComp kx vx gs scope pos) (some (.Name y py)) l env = pure true := by
  have ky : env.kindOf y = some .local := hy
  have hb : env.blockKind = .function := by unfold Env.blockKind; rw [hk]; rfl
  unfold swapsWith
  simp only [hb, ky, ha, Expr.pos, hl]
  rfl
end
/-- over a list that stays -/
theorem dc_list {K : PySem.W.Frag} {a : Addr} {xs : List V} {g : TG} {tt : TT} {tk tv : TE} {vs : List Nat} {σ : L2.St} {H1 : Hp} {D : Addr} {Qd : Hp → Prop} (Pv : Nat → Hp → Prop) (h0 : Pv 0 (L2.upd H1 D (.dK []))) (hl : ∀ i H, i ≤ xs.length → Pv i H → SqL K H a xs)
    (hs : ∀ i x H, xs[i]? = some x → Pv i H → g x (wipe σ vs) H fun σ2 H2 => wipe σ2 vs = wipe σ vs ∧ tt σ2 H2 fun b H3 =>
      if b = true then tk σ2 H3 fun y H4 => tv σ2 H4 fun z H5 => ∃ kvs k, y = kV k ∧ H5 D = some (.dK kvs) ∧ kvs.length < sizeLine ∧ Pv (i + 1) (L2.upd H5 D (.dK (putK kvs k z))) else Pv (i + 1) H3) (hd : ∀ H, Pv xs.length H → Qd H) :
    ∃ W : Nat → Nat → Hp → Prop, (∃ m, W 0 m (L2.upd H1 D (.dK []))) ∧ ∀ i m H, W i m H →
      ((Itl K a).stop i H ∧ Qd H) ∨ ((Itl K a).go i H ∧ ∃ Nx : Hp → Prop, (∀ H', Nx H' → ∃ m', m' < m ∧ W (i + 1) m' H') ∧ ∀ x H', (Itl K a).yld i H x H' → g x (wipe σ vs) H' fun σ2 H2 => wipe σ2 vs = wipe σ vs ∧ tt σ2 H2 fun b H3 =>
        if b = true then tk σ2 H3 fun y H4 => tv σ2 H4 fun z H5 => ∃ kvs k, y = kV k ∧ H5 D = some (.dK kvs) ∧ kvs.length < sizeLine ∧ Nx (L2.upd H5 D (.dK (putK kvs k z))) else Nx H3) := by
  refine ⟨fun i m H => m = xs.length - i ∧ i ≤ xs.length ∧ Pv i H, ⟨xs.length, by simp, Nat.zero_le _, h0⟩, ?_⟩
  rintro i m H ⟨rfl, hi, p⟩
  have q := hl i H hi p
  by_cases hlt : i < xs.length
  · refine .inr ⟨⟨xs, xs[i], q, by simp [hlt]⟩, Pv (i + 1), fun H' p' => ⟨xs.length - (i + 1), by omega, rfl, hlt, p'⟩, fun x H' y => ?_⟩
    obtain ⟨e, y⟩ := y
    subst e
    exact hs i x _ (y xs q) p
  · have e : i = xs.length := by omega
    subst e
    exact .inl ⟨⟨xs, q, Nat.le_refl _⟩, hd H p⟩
/-- over the keys of a locked dict -/
theorem dc_keys {d : Addr} {od : Obj} {ks : List (Key × V)} {g : TG} {tt : TT} {tk tv : TE} {vs : List Nat} {σ : L2.St} {H1 : Hp} {D : Addr} {Qd : Hp → Prop} (Pv : Nat → Hp → Prop) (h0 : Pv 0 (L2.upd H1 D (.dK []))) (hl : ∀ i H, i ≤ ks.length → Pv i H → H d = some (.frz od (.dK ks)))
    (hs : ∀ i k v H, ks[i]? = some (k, v) → Pv i H → g (kV k) (wipe σ vs) H fun σ2 H2 => wipe σ2 vs = wipe σ vs ∧ tt σ2 H2 fun b H3 =>
      if b = true then tk σ2 H3 fun y H4 => tv σ2 H4 fun z H5 => ∃ kvs k, y = kV k ∧ H5 D = some (.dK kvs) ∧ kvs.length < sizeLine ∧ Pv (i + 1) (L2.upd H5 D (.dK (putK kvs k z))) else Pv (i + 1) H3) (hd : ∀ H, Pv ks.length H → Qd H) :
    ∃ W : Nat → Nat → Hp → Prop, (∃ m, W 0 m (L2.upd H1 D (.dK []))) ∧ ∀ i m H, W i m H →
      ((Itk d od ks).stop i H ∧ Qd H) ∨ ((Itk d od ks).go i H ∧ ∃ Nx : Hp → Prop, (∀ H', Nx H' → ∃ m', m' < m ∧ W (i + 1) m' H') ∧ ∀ x H', (Itk d od ks).yld i H x H' → g x (wipe σ vs) H' fun σ2 H2 => wipe σ2 vs = wipe σ vs ∧ tt σ2 H2 fun b H3 =>
        if b = true then tk σ2 H3 fun y H4 => tv σ2 H4 fun z H5 => ∃ kvs k, y = kV k ∧ H5 D = some (.dK kvs) ∧ kvs.length < sizeLine ∧ Nx (L2.upd H5 D (.dK (putK kvs k z))) else Nx H3) := by
  refine ⟨fun i m H => m = ks.length - i ∧ i ≤ ks.length ∧ Pv i H, ⟨ks.length, by simp, Nat.zero_le _, h0⟩, ?_⟩
  rintro i m H ⟨rfl, hi, p⟩
  have q := hl i H hi p
  by_cases hlt : i < ks.length
  · refine .inr ⟨⟨q, hlt⟩, Pv (i + 1), fun H' p' => ⟨ks.length - (i + 1), by omega, rfl, hlt, p'⟩, fun x H' y => ?_⟩
    obtain ⟨rfl, k, v, e, rfl⟩ := y
    exact hs i k v _ e p
  · have e : i = ks.length := by omega
    subst e
    exact .inl ⟨⟨q, Nat.le_refl _⟩, hd H p⟩
end CK

set_option Elab.async false
set_option linter.all false
set_option maxRecDepth 100000
set_option maxHeartbeats 2000000
/-! == of an object of an own class and a list, by the object's __eq__ -/
namespace CK
open PySem PySem.Spec PyProof.Rows L2 SX
section
variable {X : Cx} {k j : Nat} {C : Addr} {sp : Sp}
def rEqOL (C : Addr) (sp : Sp) : R2 := fun x y H Q => ∃ a b dx fs xs, x = .ref a ∧ y = .ref b ∧ H a = some (.ins C dx fs) ∧ H b = some (.lst xs) ∧ sp [.ref a, .ref b] H (fun v H' => (∃ r, v = .bl r) ∧ Q v H') C8.E0
theorem notFirst_list (K : PySem.W.Frag) (C : Addr) : PySem.W.notFirst K C (.type "list") = true := by
  have : PySem.W.subIn K (.type "list") (.ref C) = some false := by rfl
  unfold PySem.W.notFirst
  rw [this]
  simp
theorem op_eqOL (c : C8.Met X.prog X.w X.K X.mg X.base k C "__eq__" sp []) (hr : Room j X.A) (hk : k ≤ j) : OpR X (compareOp .Eq) (rEqOL C sp) := by
  intro pins s σ H x y v u Q I rx ry h
  obtain ⟨a, b, dx, fs, xs, rfl, rfl, ha, hb', hsp⟩ := h
  obtain ⟨f, fd, ps, ds, hc, hm, F, bnd, d⟩ := c.ex
  cases d
  cases rx
  cases ry
  obtain ⟨mA, J, _⟩ := ins_get I.hok ha
  obtain ⟨od, J, _⟩ := J.look
  obtain ⟨its, rv, hT, _⟩ := I.list (.inl (.inl hb'))
  obtain ⟨m, hF⟩ := I.fr
  have hr' := hr.mono hk
  obtain ⟨ob, nb, eb, cb, _, _⟩ := hT
  have hty : PySem.W.Looks (model X.prog X.w) s.heap (typeOf (.ref b)) (.type "list") := (PySem.W.Looks.ld eb).andThen (by rw [cb]; exact .now)
  show wpAny (model X.prog X.w) X.A (richCompare .Eq (.ref a) (.ref b)) (EP X pins σ Q) X.xe s
  refine PySem.W.cmp_K (op := .Eq) (tb := .type "list") hr.units0 hF I.ok.mod.kin J hty (notFirst_list _ _) hm.at_ hm.fn ?_
  have hl := F.len _ _ _ _ hsp
  have r2 : Vals [V.ref a, V.ref b] [Value.ref a, Value.ref b] := .cons rfl (.cons rfl .nil)
  refine wpAny_call (codeAny_mono (F.run X.A X.stack s H ⟨[.ref a, .ref b], []⟩ [.ref a, .ref b] [.ref a, .ref b] _ C8.E0 hr' I.env0 (by
    have := bnd s [.ref a, .ref b] I.kIn (by simpa using hl)
    simpa using this) r2 hsp) fun r s' hq => ?_)
  cases r with
  | error e => exact C8.pass0 (E := C8.E0) pins σ H s e s' I hq
  | ok fl =>
    cases fl with
    | ret w =>
      obtain ⟨z, H', I', rz, ⟨r, ez⟩, q⟩ := I.after hq
      subst ez
      cases rz
      exact ⟨.bl r, H', I', rfl, q⟩
    | next => exact False.elim hq
    | brk => exact False.elim hq
    | cont => exact False.elim hq
/-- the class object is of the type type -/
def TyC (K : PySem.W.Frag) (C : Addr) : Prop := ∃ od cd sl, K.lookup C = some ⟨.type "type", od, .cls cd, sl⟩
theorem tyc_mk {K : PySem.W.Frag} {mg : Str → Option Value} {x : Str} {C : Addr} (_ : ClF K mg x C) {oc : Value} {od : Option Addr} {cd : ClassData} {sl : Array (Option Value)} (l : K.lookup C = some ⟨oc, od, .cls cd, sl⟩) (e : oc = .type "type") : TyC K C := by
  subst e
  exact ⟨_, _, _, l⟩
theorem with_tyc {K : PySem.W.Frag} {mg : Str → Option Value} {x : Str} {C : Addr} (_ : ClF K mg x C) {R : Prop} (d : TyC K C) (r : TyC K C → R) : R := r d
theorem kit_listC {K : PySem.W.Frag} {C : Addr} (t : TyC K C) : PySem.W.kitOne K (.type "list") (.ref C) = some false := by
  obtain ⟨od, cd, sl, l⟩ := t
  have s : PySem.W.subIn K (.type "list") (.ref C) = some false := by rfl
  have h1 : PySem.W.clsIn K C = some cd := by unfold PySem.W.clsIn; rw [l]
  have h2 : PySem.W.typeIn K (.ref C) = some (.type "type") := by
    show (K.lookup C).map _ = _
    rw [l]
    rfl
  have h3 : PySem.W.kitCls K (.type "list") (.ref C) = some false := by
    unfold PySem.W.kitCls
    dsimp only
    rw [h1, h2, s]
    rfl
  unfold PySem.W.kitOne
  rw [h3]
  rfl
/-- isinstance of an object of an own class, or of a list -/
theorem call_isCL (c : C8.InsC X.K C) (t : TyC X.K C) : CallR X (.builtin "isinstance") (fun xs H Q => (∃ a dx fs, xs = [.ref a, .ref C] ∧ H a = some (.ins C dx fs) ∧ Q (.bl true) H) ∨ ∃ a ys, xs = [.ref a, .ref C] ∧ H a = some (.lst ys) ∧ Q (.bl false) H) := by
  intro pins s σ H xs us Q I r h
  rcases h with h | ⟨a, ys, rfl, ha, q⟩
  · exact C8.call_isC c pins s σ H xs us Q I r h
  · exact call_isi pins s σ H _ us Q I r ⟨.ref a, .ref C, .type "list", .ref C, false, rfl, .own C, .base (.lst ha), kit_listC t, q⟩
end
end CK

set_option Elab.async false
set_option linter.all false
set_option maxRecDepth 100000
/-! (instance, number) == (instance, number): tuples whose instances are equal by their own == -/
namespace CK
open PySem PySem.Spec PyProof.Rows L2
section
variable {X : Cx} {k j : Nat} {C : Addr} {sp : Sp} {R : Addr → Addr → Hp → Prop}
/-- two of the class that R tells equal, or two equal flat values -/
abbrev DPart (C : Addr) (R : Addr → Addr → Hp → Prop) : Eqv := fun x y H => DIns C R x y H ∨ DFlat x y H
theorem op_eqTO (c : C8.Met X.prog X.w X.K X.mg X.base k C "__eq__" sp []) (hR : ∀ a b H H', Ext H H' → R a b H → R a b H') (hs : ∀ vs H Q E, spEq R vs H Q E → sp vs H Q E) (hr : Room j X.A) (hk : k + 1 ≤ j) : OpR X (compareOp .Eq) (rEqG (DTup X.K (DPart C R))) := by
  obtain ⟨f, fd, ps, ds, hc, hm, F, bnd, d⟩ := c.ex
  cases d
  have e1 : EqG X k (DIns C R) := eqG_ins (F.imp hs) hm.at_ hm.fn bnd (C8.pass0 (E := C8.E0))
  exact op_eqG (rcG_tup (Mon.or (mon_ins hR) mon_flat) (e1.or (eqG_flat.mono (Nat.zero_le _)))) (hr.mono hk)
end
end CK

set_option Elab.async false
set_option linter.all false
set_option maxRecDepth 100000
/-! lists of instances: == by their own ==; != of two lists of the same objects -/
namespace CK
open PySem PySem.Spec PyProof.Rows L2
section
variable {X : Cx} {k j : Nat} {C : Addr} {sp : Sp} {R : Addr → Addr → Hp → Prop}
theorem op_eqLO (c : C8.Met X.prog X.w X.K X.mg X.base k C "__eq__" sp []) (hR : ∀ a b H H', Ext H H' → R a b H → R a b H') (hs : ∀ vs H Q E, spEq R vs H Q E → sp vs H Q E) (hr : Room j X.A) (hk : k + 1 ≤ j) : OpR X (compareOp .Eq) (rEqG (DList (DIns C R))) := by
  obtain ⟨f, fd, ps, ds, hc, hm, F, bnd, d⟩ := c.ex
  cases d
  have e1 : EqG X k (DIns C R) := eqG_ins (F.imp hs) hm.at_ hm.fn bnd (C8.pass0 (E := C8.E0))
  exact op_eqG (rcG_list (mon_ins hR) e1) (hr.mono hk)
theorem refs_its : ∀ {as : List Addr} {us : List Value}, Vals (as.map V.ref) us → us = as.map Value.ref
  | [], _, r => by cases r; rfl
  | a :: as, _, r => by
    cases r with
    | cons h t =>
      rw [refs_its t]
      have h : _ = Value.ref a := h
      rw [h]
      rfl
theorem op_neRefs (hu : X.A.units < cLine) : OpR X (compareOp .NotEq) (fun x y H Q => ∃ (a b : Addr) (as : List Addr), x = .ref a ∧ y = .ref b ∧ H a = some (.lst (as.map V.ref)) ∧ H b = some (.lst (as.map V.ref)) ∧ Q (.bl false) H) := by
  intro pins s σ H x y v u Q I rx ry h
  obtain ⟨a, b, as, rfl, rfl, ha, hb, q⟩ := h
  cases rx
  cases ry
  obtain ⟨its, r1, l1, _⟩ := I.list (.inl (.inl ha))
  obtain ⟨its2, r2, l2, _⟩ := I.list (.inl (.inl hb))
  rw [refs_its r1] at l1
  rw [refs_its r2] at l2
  show wpAny (model X.prog X.w) X.A (richCompare .NotEq (.ref a) (.ref b)) (EP X pins σ Q) X.xe s
  refine SeqAt.RcNeAt.lists (e := fun _ => true) l1.isList l2.isList rfl hu (fun j h1 h2 => SeqAt.EqAt.same _) X.prog X.w _ _ ?_
  have e : (!(List.range (as.map Value.ref).toArray.size).all fun _ => true) = false := by simp
  rw [e]
  exact ⟨.bl false, H, I, rfl, q⟩
/-- xs == [], whatever the items are -/
theorem op_eqNil (hu : X.A.units < cLine) : OpR X (compareOp .Eq) (fun x y H Q => ∃ (a b : Addr) (xs : List V), x = .ref a ∧ y = .ref b ∧ H a = some (.lst xs) ∧ H b = some (.lst []) ∧ Q (.bl (decide (xs = []))) H) := by
  intro pins s σ H x y v u Q I rx ry h
  obtain ⟨a, b, xs, rfl, rfl, ha, hb, q⟩ := h
  cases rx
  cases ry
  obtain ⟨its, r1, l1, _⟩ := I.list (.inl (.inl ha))
  obtain ⟨its2, r2, l2, _⟩ := I.list (.inl (.inl hb))
  have n2 : its2 = [] := List.length_eq_zero_iff.mp (by rw [← r2.length]; rfl)
  subst n2
  show wpAny (model X.prog X.w) X.A (richCompare .Eq (.ref a) (.ref b)) (EP X pins σ Q) X.xe s
  cases xs with
  | nil =>
    have n1 : its = [] := List.length_eq_zero_iff.mp (by rw [← r1.length]; rfl)
    subst n1
    refine SeqAt.RcAt.lists (e := fun _ => true) l1.isList l2.isList rfl hu (fun j h1 h2 => absurd h1 (by simp)) X.prog X.w _ _ ?_
    exact ⟨.bl true, H, I, rfl, q⟩
  | cons x xs =>
    have n1 : its.length = xs.length + 1 := by rw [← r1.length]; rfl
    refine SeqAt.RcAt.lists_lengths l1.isList l2.isList (by simp [n1]) hu X.prog X.w _ _ ?_
    exact ⟨.bl false, H, I, rfl, q⟩
end
end CK

set_option linter.all false
namespace CK
open PySem PySem.Spec PyProof.Rows L2
/-- != of data within a comprehension -/
theorem op_neDK {X : Cx} {K : PySem.W.Frag} (hK : X.K = K) (hu : X.A.units + 64 < cLine) : OpR X (compareOp .NotEq) (rNeD K) := by
  subst hK
  exact op_neD hu
end CK

set_option linter.all false
/-! words as lists of numbers: beginnings, borders, periods, powers, roots -/
namespace WM
abbrev W := List Nat
/-! ### beginnings in common -/
def lcp : W → W → Nat
  | x :: xs, y :: ys => if x = y then lcp xs ys + 1 else 0
  | _, _ => 0
theorem lcp_le : ∀ a b : W, lcp a b ≤ a.length ∧ lcp a b ≤ b.length
  | [], b => by simp [lcp]
  | _ :: _, [] => by simp [lcp]
  | x :: xs, y :: ys => by
    have := lcp_le xs ys
    unfold lcp
    split <;> simp <;> omega
theorem lcp_take : ∀ (a b : W) (k : Nat), k ≤ lcp a b → a.take k = b.take k
  | _, _, 0, _ => by simp
  | [], b, k + 1, h => by simp [lcp] at h
  | _ :: _, [], k + 1, h => by simp [lcp] at h
  | x :: xs, y :: ys, k + 1, h => by
    unfold lcp at h
    split at h
    · rename_i e
      subst e
      rw [List.take_succ_cons, List.take_succ_cons, lcp_take xs ys k (by omega)]
    · omega
theorem le_lcp : ∀ (a b : W) (k : Nat), k ≤ a.length → k ≤ b.length → a.take k = b.take k → k ≤ lcp a b
  | _, _, 0, _, _, _ => Nat.zero_le _
  | [], b, k + 1, h, _, _ => by simp at h
  | _ :: _, [], k + 1, _, h, _ => by simp at h
  | x :: xs, y :: ys, k + 1, h1, h2, h => by
    rw [List.take_succ_cons, List.take_succ_cons] at h
    injection h with e1 e2
    subst e1
    have := le_lcp xs ys k (by simpa using h1) (by simpa using h2) e2
    unfold lcp
    rw [if_pos rfl]
    omega
theorem lcp_iff {a b : W} {k : Nat} (h1 : k ≤ a.length) (h2 : k ≤ b.length) : a.take k = b.take k ↔ k ≤ lcp a b := ⟨le_lcp a b k h1 h2, lcp_take a b k⟩

/-! ### periods and borders -/
/-- letters that stand p apart are the same -/
def Per (p : Nat) (w : W) : Prop := ∀ i, i + p < w.length → w[i]? = w[i + p]?
/-- the first b letters are the last b -/
def Bor (b : Nat) (w : W) : Prop := b ≤ w.length ∧ ∀ i, i < b → w[i]? = w[w.length - b + i]?
instance (b : Nat) (w : W) : Decidable (Bor b w) := by unfold Bor; exact inferInstance
theorem bor_per {b : Nat} {w : W} (h : Bor b w) : Per (w.length - b) w := fun i hi => by
  rw [h.2 i (by have := h.1; omega), Nat.add_comm i]
theorem per_bor {p : Nat} {w : W} (hp : p ≤ w.length) (h : Per p w) : Bor (w.length - p) w := by
  refine ⟨Nat.sub_le _ _, fun i hi => ?_⟩
  rw [h i (by omega)]
  congr 1
  omega
theorem per_zero (w : W) : Per 0 w := fun i _ => rfl
theorem per_len {p : Nat} {w : W} (h : w.length ≤ p) : Per p w := fun i hi => by omega
theorem per_take {p k : Nat} {w : W} (h : Per p w) : Per p (w.take k) := fun i hi => by
  rw [List.length_take] at hi
  rw [List.getElem?_take_of_lt (by omega), List.getElem?_take_of_lt (by omega)]
  exact h i (by omega)
theorem per_mul {p : Nat} {w : W} (h : Per p w) : ∀ (k i : Nat), i + p * k < w.length → w[i]? = w[i + p * k]?
  | 0, i, _ => by simp
  | k + 1, i, hi => by
    rw [Nat.mul_succ] at hi ⊢
    rw [per_mul h k i (by omega), h (i + p * k) (by omega)]
    congr 1
    omega
/-- Fine and Wilf's, the weak form -/
theorem per_sub {p q : Nat} {w : W} (hpq : p ≤ q) (hp : Per p w) (hq : Per q w) (hl : p + q ≤ w.length) : Per (q - p) w := fun i hi => by
  by_cases h : i + q < w.length
  · rw [hq i h]
    have := hp (i + (q - p)) (by omega)
    rw [this]
    congr 1
    omega
  · have h1 : p ≤ i := by omega
    have a := hp (i - p) (by omega)
    have b := hq (i - p) (by omega)
    rw [show i - p + p = i by omega] at a
    rw [show i - p + q = i + (q - p) by omega] at b
    rw [← a, b]
theorem fine_wilf : ∀ (n p q : Nat) (w : W), p + q ≤ n → Per p w → Per q w → p + q ≤ w.length → Per (Nat.gcd p q) w
  | 0, p, q, w, hn, hp, hq, _ => by
    have e1 : p = 0 := by omega
    have e2 : q = 0 := by omega
    subst e1 e2
    exact hp
  | n + 1, p, q, w, hn, hp, hq, hl => by
    by_cases p0 : p = 0
    · subst p0
      rw [Nat.gcd_zero_left]
      exact hq
    by_cases q0 : q = 0
    · subst q0
      rw [Nat.gcd_zero_right]
      exact hp
    by_cases h : p ≤ q
    · have := fine_wilf n p (q - p) w (by omega) hp (per_sub h hp hq hl) (by omega)
      rw [Nat.gcd_sub_self_right h] at this
      exact this
    · have := fine_wilf n (p - q) q w (by omega) (per_sub (by omega) hq hp (by omega)) hq (by omega)
      rw [Nat.gcd_sub_self_left (by omega)] at this
      exact this
theorem per_gcd {p q : Nat} {w : W} (hp : Per p w) (hq : Per q w) (hl : p + q ≤ w.length) : Per (Nat.gcd p q) w := fine_wilf _ p q w (Nat.le_refl _) hp hq hl

/-! ### the longest border -/
def lbF (w : W) : Nat → Nat
  | 0 => 0
  | b + 1 => if Bor (b + 1) w then b + 1 else lbF w b
/-- how long the longest border is, besides the word itself -/
def lb (w : W) : Nat := lbF w (w.length - 1)
theorem bor_zero (w : W) : Bor 0 w := ⟨Nat.zero_le _, fun i h => by omega⟩
theorem lbF_bor (w : W) : ∀ b, Bor (lbF w b) w ∧ lbF w b ≤ b
  | 0 => ⟨bor_zero w, Nat.le_refl _⟩
  | b + 1 => by
    unfold lbF
    split
    · rename_i h
      exact ⟨h, Nat.le_refl _⟩
    · have := lbF_bor w b
      exact ⟨this.1, by omega⟩
theorem lbF_max (w : W) : ∀ b c, c ≤ b → Bor c w → c ≤ lbF w b
  | 0, c, h, _ => by omega
  | b + 1, c, h, hc => by
    unfold lbF
    split
    · omega
    · rename_i hn
      by_cases e : c = b + 1
      · subst e
        exact absurd hc hn
      · exact lbF_max w b c (by omega) hc
theorem lb_bor (w : W) : Bor (lb w) w := (lbF_bor w _).1
theorem lb_lt {w : W} (h : w ≠ []) : lb w < w.length := by
  have := (lbF_bor w (w.length - 1)).2
  have := List.length_pos_iff.mpr h
  unfold lb
  omega
theorem lb_max {w : W} {c : Nat} (h : c < w.length) (hc : Bor c w) : c ≤ lb w := lbF_max w _ c (by omega) hc
/-- a border of a border is a border; a shorter border is one of the longer -/
theorem bor_take {w : W} {b c : Nat} (hb : Bor b w) (hc : c ≤ b) : Bor c w ↔ Bor c (w.take b) := by
  have l : (w.take b).length = b := by rw [List.length_take]; have := hb.1; omega
  constructor
  · intro h
    refine ⟨by rw [l]; exact hc, fun i hi => ?_⟩
    rw [l, List.getElem?_take_of_lt (by omega), List.getElem?_take_of_lt (by omega), h.2 i hi, hb.2 (b - c + i) (by omega)]
    congr 1
    have := hb.1
    omega
  · intro h
    refine ⟨Nat.le_trans hc hb.1, fun i hi => ?_⟩
    have := h.2 i hi
    rw [l, List.getElem?_take_of_lt (by omega), List.getElem?_take_of_lt (by omega)] at this
    rw [this, hb.2 (b - c + i) (by omega)]
    congr 1
    have := hb.1
    omega
/-- a border, one letter longer -/
theorem bor_succ {w : W} {n b : Nat} (hn : n < w.length) (hb : b < n) : Bor (b + 1) (w.take (n + 1)) ↔ Bor b (w.take n) ∧ w[b]? = w[n]? := by
  have l1 : (w.take (n + 1)).length = n + 1 := by rw [List.length_take]; omega
  have l0 : (w.take n).length = n := by rw [List.length_take]; omega
  constructor
  · intro h
    refine ⟨⟨by omega, fun i hi => ?_⟩, ?_⟩
    · have := h.2 i (by omega)
      rw [l1, List.getElem?_take_of_lt (by omega), List.getElem?_take_of_lt (by omega)] at this
      rw [l0, List.getElem?_take_of_lt (by omega), List.getElem?_take_of_lt (by omega), this]
      congr 1
      omega
    · have := h.2 b (by omega)
      rw [l1, List.getElem?_take_of_lt (by omega), List.getElem?_take_of_lt (by omega)] at this
      rw [this]
      congr 1
      omega
  · rintro ⟨h, e⟩
    refine ⟨by omega, fun i hi => ?_⟩
    rw [l1, List.getElem?_take_of_lt (by omega), List.getElem?_take_of_lt (by omega)]
    by_cases z : i < b
    · have := h.2 i z
      rw [l0, List.getElem?_take_of_lt (by omega), List.getElem?_take_of_lt (by omega)] at this
      rw [this]
      congr 1
      omega
    · have e1 : i = b := by omega
      subst e1
      rw [e]
      congr 1
      omega
/-- the walk down the borders: the state at a turn of the inner loop -/
def Cand (w : W) (n s : Nat) : Prop := s < n ∧ Bor s (w.take n) ∧ ∀ b, b < n → Bor b (w.take n) → w[b]? = w[n]? → b ≤ s
theorem cand_start {w : W} {n : Nat} (hn : n ≤ w.length) (h0 : 0 < n) : Cand w n (lb (w.take n)) := by
  have l0 : (w.take n).length = n := by rw [List.length_take]; omega
  have ne : w.take n ≠ [] := fun z => by rw [z] at l0; simp at l0; omega
  refine ⟨by have := lb_lt ne; omega, lb_bor _, fun b hb h _ => lb_max (by omega) h⟩
theorem cand_down {w : W} {n s : Nat} (hn : n ≤ w.length) (h : Cand w n s) (hs : 0 < s) (hd : w[s]? ≠ w[n]?) : Cand w n (lb (w.take s)) := by
  obtain ⟨h1, h2, h3⟩ := h
  have ls : (w.take s).length = s := by rw [List.length_take]; omega
  have ne : w.take s ≠ [] := fun z => by rw [z] at ls; simp at ls; omega
  have lt := lb_lt ne
  have tt : (w.take n).take s = w.take s := by rw [List.take_take]; congr 1; omega
  have bs : Bor (lb (w.take s)) (w.take n) := by
    rw [bor_take h2 (by omega), tt]
    exact lb_bor _
  refine ⟨by omega, bs, fun b hb hB e => ?_⟩
  have le := h3 b hb hB e
  have ne2 : b ≠ s := fun z => hd (by rw [← z]; exact e)
  have : Bor b (w.take s) := by
    rw [← tt, ← bor_take h2 (by omega)]
    exact hB
  exact lb_max (by omega) this
theorem cand_hit {w : W} {n s : Nat} (hn : n < w.length) (h : Cand w n s) (e : w[s]? = w[n]?) : lb (w.take (n + 1)) = s + 1 := by
  obtain ⟨h1, h2, h3⟩ := h
  have l1 : (w.take (n + 1)).length = n + 1 := by rw [List.length_take]; omega
  have ne : w.take (n + 1) ≠ [] := fun z => by rw [z] at l1; simp at l1
  have hB : Bor (s + 1) (w.take (n + 1)) := (bor_succ hn h1).mpr ⟨h2, e⟩
  have le := lb_max (by omega) hB
  have lt := lb_lt ne
  have lB := lb_bor (w.take (n + 1))
  generalize lb (w.take (n + 1)) = x at le lt lB ⊢
  cases x with
  | zero => omega
  | succ x =>
    obtain ⟨a, b⟩ := (bor_succ hn (by omega)).mp lB
    have := h3 x (by omega) a b
    omega
theorem cand_miss {w : W} {n : Nat} (hn : n < w.length) (h : Cand w n 0) (e : w[0]? ≠ w[n]?) : lb (w.take (n + 1)) = 0 := by
  obtain ⟨h1, h2, h3⟩ := h
  have l1 : (w.take (n + 1)).length = n + 1 := by rw [List.length_take]; omega
  have ne : w.take (n + 1) ≠ [] := fun z => by rw [z] at l1; simp at l1
  have lt := lb_lt ne
  have lB := lb_bor (w.take (n + 1))
  generalize lb (w.take (n + 1)) = x at lt lB ⊢
  cases x with
  | zero => rfl
  | succ x =>
    obtain ⟨a, b⟩ := (bor_succ hn (by omega)).mp lB
    have := h3 x (by omega) a b
    have z : x = 0 := by omega
    subst z
    exact absurd b e
theorem lb_one {w : W} : lb (w.take 1) = 0 := by
  cases w with
  | nil => simp [lb, lbF]
  | cons x r => simp [lb, lbF]

/-! ### powers and roots -/
/-- w taken k times -/
def pw (w : W) (k : Nat) : W := (List.replicate k w).flatten
theorem pw_succ (w : W) (k : Nat) : pw w (k + 1) = w ++ pw w k := by unfold pw; rw [List.replicate_succ, List.flatten_cons]
theorem pw_zero (w : W) : pw w 0 = [] := rfl
theorem pw_len (w : W) : ∀ k, (pw w k).length = w.length * k
  | 0 => by simp [pw_zero]
  | k + 1 => by rw [pw_succ, List.length_append, pw_len w k, Nat.mul_succ, Nat.add_comm]
theorem pw_add (w : W) : ∀ a b, pw w (a + b) = pw w a ++ pw w b
  | 0, b => by rw [Nat.zero_add, pw_zero, List.nil_append]
  | a + 1, b => by rw [show a + 1 + b = a + b + 1 by omega, pw_succ, pw_add w a b, pw_succ, List.append_assoc]
theorem pw_get {w : W} (h : w ≠ []) : ∀ (k i : Nat), i < w.length * k → (pw w k)[i]? = w[i % w.length]?
  | 0, i, hi => by simp at hi
  | k + 1, i, hi => by
    have n0 := List.length_pos_iff.mpr h
    rw [pw_succ]
    by_cases z : i < w.length
    · rw [List.getElem?_append_left z, Nat.mod_eq_of_lt z]
    · have hm : w.length * (k + 1) = w.length * k + w.length := Nat.mul_succ ..
      rw [List.getElem?_append_right (by omega), pw_get h k _ (by omega), Nat.mod_eq_sub_mod (show i ≥ w.length by omega)]
/-- a word with a period that divides its length is a power -/
theorem per_pw {w : W} {d : Nat} (hd : 0 < d) (hp : Per d w) (hv : d ∣ w.length) : w = pw (w.take d) (w.length / d) := by
  obtain ⟨k, hk⟩ := hv
  by_cases k0 : k = 0
  · subst k0
    rw [Nat.mul_zero] at hk
    rw [List.length_eq_zero_iff.mp hk]
    simp [pw]
  have dl : d ≤ w.length := by rw [hk]; exact Nat.le_mul_of_pos_right d (by omega)
  have lt : (w.take d).length = d := by rw [List.length_take]; omega
  have ne : w.take d ≠ [] := fun z => by rw [z] at lt; simp at lt; omega
  have ek : w.length / d = k := by rw [hk]; exact Nat.mul_div_cancel_left k hd
  rw [ek]
  refine List.ext_getElem? fun i => ?_
  by_cases hi : i < w.length
  · rw [pw_get ne k i (by rw [lt, ← hk]; exact hi), lt, List.getElem?_take_of_lt (Nat.mod_lt i hd)]
    have := per_mul hp (i / d) (i % d) (by rw [Nat.mod_add_div]; exact hi)
    rw [this, Nat.mod_add_div]
  · rw [List.getElem?_eq_none (by omega), List.getElem?_eq_none (by rw [pw_len, lt, ← hk]; omega)]
theorem pw_per {u : W} (h : u ≠ []) (k : Nat) : Per u.length (pw u k) := fun i hi => by
  rw [pw_len] at hi
  rw [pw_get h k i (by omega), pw_get h k _ hi, Nat.add_mod_right]
/-- not empty, and no shorter word taken several times -/
def Prim (w : W) : Prop := w ≠ [] ∧ ∀ d, 0 < d → d ∣ w.length → Per d w → d = w.length
theorem prim_pw {w u : W} {k : Nat} (h : Prim w) (e : w = pw u k) : k = 1 ∧ u = w := by
  have une : u ≠ [] := fun z => by
    subst z
    apply h.1
    rw [e]
    simp [pw]
  have l : w.length = u.length * k := by rw [e, pw_len]
  have := h.2 u.length (List.length_pos_iff.mpr une) ⟨k, l⟩ (by rw [e]; exact pw_per une k)
  have n0 := List.length_pos_iff.mpr une
  have k1 : k = 1 := by
    rw [this] at l
    have : w.length * 1 = w.length * k := by omega
    exact (Nat.eq_of_mul_eq_mul_left (by omega) this).symm
  subst k1
  exact ⟨rfl, by rw [e, pw_succ, pw_zero, List.append_nil]⟩
/-- the root's length, as the program finds it -/
def rootN (w : W) : Nat := if w.length % (w.length - lb w) = 0 then w.length - lb w else w.length
theorem rootN_dvd (w : W) : rootN w ∣ w.length := by
  unfold rootN
  split
  · rename_i h
    exact Nat.dvd_of_mod_eq_zero h
  · exact Nat.dvd_refl _
theorem rootN_pos {w : W} (h : w ≠ []) : 0 < rootN w := by
  have := lb_lt h
  have := List.length_pos_iff.mpr h
  unfold rootN
  split <;> omega
theorem rootN_le {w : W} (h : w ≠ []) : rootN w ≤ w.length := Nat.le_of_dvd (List.length_pos_iff.mpr h) (rootN_dvd w)
theorem rootN_per (w : W) : Per (rootN w) w := by
  unfold rootN
  split
  · exact bor_per (lb_bor w)
  · exact per_len (Nat.le_refl _)
/-- no period is less than the program's step -/
theorem step_least {w : W} {p : Nat} (hp : 0 < p) (hl : p ≤ w.length) (h : Per p w) : w.length - lb w ≤ p := by
  have := lb_max (c := w.length - p) (by omega) (per_bor hl h)
  omega
/-- a period of the word that divides its length is a multiple of the root's -/
theorem root_div {w : W} (hw : w ≠ []) {d : Nat} (hd : 0 < d) (hv : d ∣ w.length) (h : Per d w) : rootN w ∣ d := by
  have n0 := List.length_pos_iff.mpr hw
  have dl := Nat.le_of_dvd n0 hv
  have lt := lb_lt hw
  have s := step_least hd dl h
  by_cases e : d = w.length
  · rw [e]
    exact rootN_dvd w
  · have two : d + d ≤ w.length := by
      obtain ⟨k, hk⟩ := hv
      have : k ≠ 0 := fun z => by subst z; omega
      have : k ≠ 1 := fun z => by subst z; omega
      have : d * 2 ≤ d * k := Nat.mul_le_mul_left d (by omega)
      omega
    have g := per_gcd (bor_per (lb_bor w)) h (by omega)
    have gp : 0 < Nat.gcd (w.length - lb w) d := Nat.gcd_pos_of_pos_right _ hd
    have g1 := step_least gp (Nat.le_trans (Nat.gcd_le_right _ hd) dl) g
    have g2 : Nat.gcd (w.length - lb w) d ∣ w.length - lb w := Nat.gcd_dvd_left _ _
    have g3 : Nat.gcd (w.length - lb w) d = w.length - lb w := Nat.le_antisymm (Nat.le_of_dvd (by omega) g2) g1
    have g4 : w.length - lb w ∣ d := by rw [← g3]; exact Nat.gcd_dvd_right _ _
    have : w.length % (w.length - lb w) = 0 := Nat.mod_eq_zero_of_dvd (Nat.dvd_trans g4 hv)
    unfold rootN
    rw [if_pos this]
    exact g4
theorem root_prim {w : W} (hw : w ≠ []) : Prim (w.take (rootN w)) := by
  have r0 := rootN_pos hw
  have rl := rootN_le hw
  have l : (w.take (rootN w)).length = rootN w := by rw [List.length_take]; omega
  refine ⟨fun z => by rw [z] at l; simp at l; omega, fun d hd hv h => ?_⟩
  rw [l] at hv ⊢
  -- a period of the root that divides it is one of the word
  have hw' : Per d w := fun i hi => by
    have mul : ∀ j, j < w.length → w[j]? = w[j % rootN w]? := fun j hj => by
      have := per_mul (rootN_per w) (j / rootN w) (j % rootN w) (by rw [Nat.mod_add_div]; exact hj)
      rw [Nat.mod_add_div] at this
      exact this.symm
    have inner : ∀ j, j < rootN w → w[j]? = w[j % d]? := fun j hj => by
      have := per_mul h (j / d) (j % d) (by rw [Nat.mod_add_div, l]; exact hj)
      rw [Nat.mod_add_div, List.getElem?_take_of_lt hj, List.getElem?_take_of_lt (by have := Nat.mod_le j d; omega)] at this
      exact this.symm
    rw [mul i (by omega), mul (i + d) hi, inner _ (Nat.mod_lt _ r0), inner ((i + d) % rootN w) (Nat.mod_lt _ r0)]
    congr 1
    rw [Nat.mod_mod_of_dvd _ hv, Nat.mod_mod_of_dvd _ hv, Nat.add_mod_right]
  exact Nat.dvd_antisymm hv (root_div hw hd (Nat.dvd_trans hv (rootN_dvd w)) hw')
theorem root_pw {w : W} (hw : w ≠ []) : w = pw (w.take (rootN w)) (w.length / rootN w) := per_pw (rootN_pos hw) (rootN_per w) (rootN_dvd w)
end WM

set_option linter.all false
set_option maxRecDepth 100000
namespace NM
open WM
/-! ### the last letters of a word taken without end; rotations -/
theorem mod_of {a b L x y : Nat} (h : a + L * x = b + L * y) : a % L = b % L := by
  rw [← Nat.add_mul_mod_self_left a L x, h, Nat.add_mul_mod_self_left]
def rotR (u : W) (k : Nat) : W := u.drop (u.length - k % u.length) ++ u.take (u.length - k % u.length)
def tailE (u : W) (k : Nat) : W := u.drop (u.length - k % u.length) ++ pw u (k / u.length)
theorem tailE_len {u : W} (h : u ≠ []) (k : Nat) : (tailE u k).length = k := by
  have n0 := List.length_pos_iff.mpr h
  have := Nat.mod_lt k n0
  have := Nat.mod_add_div k u.length
  unfold tailE
  rw [List.length_append, List.length_drop, pw_len]
  omega
theorem tailE_get {u : W} (h : u ≠ []) {k i : Nat} (hi : i < k) : (tailE u k)[i]? = u[(i + (u.length - k % u.length)) % u.length]? := by
  have n0 := List.length_pos_iff.mpr h
  have hm := Nat.mod_lt k n0
  have hd := Nat.mod_add_div k u.length
  unfold tailE
  by_cases z : i < k % u.length
  · rw [List.getElem?_append_left (by rw [List.length_drop]; omega), List.getElem?_drop, Nat.mod_eq_of_lt (show i + (u.length - k % u.length) < u.length by omega), Nat.add_comm]
  · rw [List.getElem?_append_right (by rw [List.length_drop]; omega), List.length_drop, pw_get h _ _ (by omega)]
    congr 1
    exact mod_of (x := 1) (y := 0) (by omega)
theorem tailE_drop {u : W} (h : u ≠ []) {n k : Nat} (hk : k ≤ n) : (tailE u n).drop (n - k) = tailE u k := by
  have n0 := List.length_pos_iff.mpr h
  refine List.ext_getElem? fun i => ?_
  by_cases hi : i < k
  · rw [List.getElem?_drop, tailE_get h (by omega), tailE_get h hi]
    congr 1
    have h1 := Nat.mod_add_div n u.length
    have h2 := Nat.mod_add_div k u.length
    have h3 := Nat.mod_lt n n0
    have h4 := Nat.mod_lt k n0
    exact mod_of (x := k / u.length) (y := n / u.length) (by omega)
  · rw [List.getElem?_eq_none (by rw [List.length_drop, tailE_len h]; omega), List.getElem?_eq_none (by rw [tailE_len h]; omega)]
theorem pw_comm (p s : W) : ∀ j, pw (s ++ p) j ++ s = s ++ pw (p ++ s) j
  | 0 => by simp [pw]
  | j + 1 => by
    rw [pw_succ, pw_succ, List.append_assoc, pw_comm p s j]
    simp [List.append_assoc]
theorem rotR_split (u : W) (k : Nat) : rotR u k = u.drop (u.length - k % u.length) ++ u.take (u.length - k % u.length) := rfl
theorem rotR_len (u : W) (k : Nat) : (rotR u k).length = u.length := by
  unfold rotR
  rw [List.length_append, List.length_drop, List.length_take]
  omega
/-- what is moved behind a power, and the power turned -/
theorem move_pw (u : W) (k j : Nat) : pw (rotR u k) j ++ tailE u k = tailE u k ++ pw u j := by
  have e : u.take (u.length - k % u.length) ++ u.drop (u.length - k % u.length) = u := List.take_append_drop _ _
  unfold tailE rotR
  rw [← List.append_assoc, pw_comm, e, List.append_assoc, ← pw_add, List.append_assoc, ← pw_add, Nat.add_comm]
theorem rotR_get {u : W} (h : u ≠ []) (k : Nat) {i : Nat} (hi : i < u.length) : (rotR u k)[i]? = u[(i + (u.length - k % u.length)) % u.length]? := by
  have n0 := List.length_pos_iff.mpr h
  have hm := Nat.mod_lt k n0
  unfold rotR
  by_cases z : i < k % u.length
  · rw [List.getElem?_append_left (by rw [List.length_drop]; omega), List.getElem?_drop, Nat.mod_eq_of_lt (show i + (u.length - k % u.length) < u.length by omega), Nat.add_comm]
  · rw [List.getElem?_append_right (by rw [List.length_drop]; omega), List.length_drop, List.getElem?_take_of_lt (by omega)]
    congr 1
    rw [show i - (u.length - (u.length - k % u.length)) = i - k % u.length by omega]
    have := mod_of (a := i + (u.length - k % u.length)) (b := i - k % u.length) (L := u.length) (x := 0) (y := 1) (by omega)
    rw [this, Nat.mod_eq_of_lt (show i - k % u.length < u.length by omega)]
theorem rotR_ne {u : W} (h : u ≠ []) (k : Nat) : rotR u k ≠ [] := fun z => by
  have := rotR_len u k
  rw [z] at this
  exact h (List.length_eq_zero_iff.mp this.symm)
theorem rotR_zero (u : W) : rotR u 0 = u := by
  unfold rotR
  simp
theorem last_get {w : W} (h : w ≠ []) : w.getLast? = w[w.length - 1]? := List.getLast?_eq_getElem? ..
/-- the last letter of the turned word is the letter ahead of what was moved -/
theorem rotR_last {u : W} (h : u ≠ []) {n k : Nat} (hk : k < n) : (rotR u k).getLast? = (tailE u n)[n - k - 1]? := by
  have n0 := List.length_pos_iff.mpr h
  rw [last_get (rotR_ne h k), rotR_len, rotR_get h k (by omega), tailE_get h (by omega)]
  congr 1
  have h1 := Nat.mod_add_div n u.length
  have h2 := Nat.mod_add_div k u.length
  have h3 := Nat.mod_lt n n0
  have h4 := Nat.mod_lt k n0
  exact mod_of (x := n / u.length) (y := k / u.length + 1) (by rw [Nat.mul_add]; omega)
theorem per_at {d : Nat} {w : W} (hd : 0 < d) (h : Per d w) {i : Nat} (hi : i < w.length) : w[i]? = w[i % d]? := by
  have := per_mul h (i / d) (i % d) (by rw [Nat.mod_add_div]; exact hi)
  rw [Nat.mod_add_div] at this
  exact this.symm
theorem prim_rotR {u : W} (h : Prim u) (k : Nat) : Prim (rotR u k) := by
  have ne := h.1
  have n0 := List.length_pos_iff.mpr ne
  refine ⟨rotR_ne ne k, fun d hd hv hp => ?_⟩
  rw [rotR_len] at hv ⊢
  refine h.2 d hd hv fun i hi => ?_
  -- letter i of u stands in the turned word at the place i + k
  have at_ : ∀ j, j < u.length → u[j]? = (rotR u k)[(j + k) % u.length]? := fun j hj => by
    rw [rotR_get ne k (Nat.mod_lt _ n0)]
    congr 1
    have h1 := Nat.mod_add_div (j + k) u.length
    have h2 := Nat.mod_add_div k u.length
    have h4 := Nat.mod_lt k n0
    have := mod_of (a := (j + k) % u.length + (u.length - k % u.length)) (b := j) (L := u.length) (x := (j + k) / u.length) (y := k / u.length + 1) (by rw [Nat.mul_add]; omega)
    rw [this, Nat.mod_eq_of_lt hj]
  have l := rotR_len u k
  rw [at_ i (by omega), at_ (i + d) hi, per_at hd hp (by rw [l]; exact Nat.mod_lt _ n0), per_at hd hp (i := (i + d + k) % u.length) (by rw [l]; exact Nat.mod_lt _ n0)]
  congr 1
  rw [Nat.mod_mod_of_dvd _ hv, Nat.mod_mod_of_dvd _ hv, show i + d + k = i + k + d by omega, Nat.add_mod_right]
/-! ### how many letters are moved -/
def movedE (ahead u : W) : Nat := lcp ahead.reverse (tailE u ahead.length).reverse
theorem movedE_le (ahead u : W) : movedE ahead u ≤ ahead.length := by
  have := (lcp_le ahead.reverse (tailE u ahead.length).reverse).1
  rw [List.length_reverse] at this
  exact this
theorem moved_drop {ahead u : W} (h : u ≠ []) : ahead.drop (ahead.length - movedE ahead u) = tailE u (movedE ahead u) := by
  have hle := movedE_le ahead u
  have e := lcp_take ahead.reverse (tailE u ahead.length).reverse _ (Nat.le_refl _)
  rw [List.take_reverse, List.take_reverse] at e
  have e2 := List.reverse_inj.mp e
  rw [tailE_len h] at e2
  rw [← tailE_drop h hle]
  exact e2
theorem lcp_next : ∀ (a b : W), lcp a b < a.length → lcp a b < b.length → a[lcp a b]? ≠ b[lcp a b]?
  | [], b, h, _ => by simp at h
  | _ :: _, [], _, h => by simp at h
  | x :: xs, y :: ys, h1, h2 => by
    unfold lcp at h1 h2 ⊢
    by_cases e : x = y
    · rw [if_pos e] at h1 h2 ⊢
      rw [List.getElem?_cons_succ, List.getElem?_cons_succ]
      exact lcp_next xs ys (by simpa using h1) (by simpa using h2)
    · rw [if_neg e]
      simp [e]
theorem moved_next {ahead u : W} (h : u ≠ []) (hk : movedE ahead u < ahead.length) : (ahead.take (ahead.length - movedE ahead u)).getLast? ≠ (rotR u (movedE ahead u)).getLast? := by
  rw [rotR_last h hk, List.getLast?_eq_getElem?, List.length_take, Nat.min_eq_left (by omega), List.getElem?_take_of_lt (by omega)]
  have := lcp_next ahead.reverse (tailE u ahead.length).reverse (by rw [List.length_reverse]; exact hk) (by rw [List.length_reverse, tailE_len h]; exact hk)
  rw [List.getElem?_reverse (by exact hk), List.getElem?_reverse (by rw [tailE_len h]; exact hk), tailE_len h] at this
  have e : ahead.length - movedE ahead u - 1 = ahead.length - 1 - movedE ahead u := by omega
  rw [e]
  exact this
theorem moved_zero {ahead u : W} (h : u ≠ []) (ha : ahead ≠ []) (hl : ahead.getLast? ≠ u.getLast?) : movedE ahead u = 0 := by
  have n0 := List.length_pos_iff.mpr ha
  have u0 := List.length_pos_iff.mpr h
  by_cases z : movedE ahead u = 0
  · exact z
  exfalso
  apply hl
  have e := moved_drop (ahead := ahead) h
  have hle := movedE_le ahead u
  rw [List.getLast?_eq_getElem?, List.getLast?_eq_getElem?]
  have h1 : (ahead.drop (ahead.length - movedE ahead u))[movedE ahead u - 1]? = (tailE u (movedE ahead u))[movedE ahead u - 1]? := by rw [e]
  rw [List.getElem?_drop, tailE_get h (by omega)] at h1
  rw [show ahead.length - 1 = ahead.length - movedE ahead u + (movedE ahead u - 1) by omega, h1]
  congr 1
  have h2 := Nat.mod_add_div (movedE ahead u) u.length
  have h4 := Nat.mod_lt (movedE ahead u) u0
  have := mod_of (a := movedE ahead u - 1 + (u.length - movedE ahead u % u.length)) (b := u.length - 1) (L := u.length) (x := 0) (y := movedE ahead u / u.length) (by omega)
  rw [this, Nat.mod_eq_of_lt (show u.length - 1 < u.length by omega)]
end NM

set_option linter.all false
/-! how far two words written by powers go together: the first letters of two powers decide (no Python here) -/
namespace WM
open NM
theorem lcp_eq_of {a b : W} {k : Nat} (h1 : k ≤ a.length) (h2 : k ≤ b.length) (e : a.take k = b.take k) (ne : k = a.length ∨ k = b.length ∨ a[k]? ≠ b[k]?) : lcp a b = k := by
  have ge := le_lcp a b k h1 h2 e
  have le := lcp_le a b
  by_cases z : lcp a b = k
  · exact z
  · have lt : k < lcp a b := by omega
    have t := lcp_take a b (k + 1) lt
    rcases ne with ne | ne | ne
    · omega
    · omega
    · exact absurd (by
        have := congrArg (fun l => l[k]?) t
        simp only [List.getElem?_take] at this
        rwa [if_pos (Nat.lt_succ_self k), if_pos (Nat.lt_succ_self k)] at this) ne
theorem lcp_short {a b : W} {k : Nat} (h1 : k ≤ a.length) (h2 : k ≤ b.length) (lt : lcp (a.take k) (b.take k) < k) : lcp a b = lcp (a.take k) (b.take k) := by
  have ta := lcp_take (a.take k) (b.take k) _ (Nat.le_refl _)
  have l1 : (a.take k).length = k := by rw [List.length_take]; omega
  have l2 : (b.take k).length = k := by rw [List.length_take]; omega
  have nx := lcp_next (a.take k) (b.take k) (by omega) (by omega)
  refine lcp_eq_of (by omega) (by omega) ?_ (.inr (.inr ?_))
  · rw [List.take_take, List.take_take, Nat.min_eq_left (Nat.le_of_lt lt)] at ta
    exact ta
  · rw [List.getElem?_take_of_lt lt, List.getElem?_take_of_lt lt] at nx
    exact nx
theorem lcp_go {a b : W} {k : Nat} (h1 : k ≤ a.length) (h2 : k ≤ b.length) (e : a.take k = b.take k) : lcp a b = k + lcp (a.drop k) (b.drop k) := by
  have l1 := lcp_le (a.drop k) (b.drop k)
  rw [List.length_drop, List.length_drop] at l1
  have t := lcp_take (a.drop k) (b.drop k) _ (Nat.le_refl _)
  refine lcp_eq_of (by omega) (by omega) ?_ ?_
  · have ea : a.take (k + lcp (a.drop k) (b.drop k)) = a.take k ++ (a.drop k).take (lcp (a.drop k) (b.drop k)) := List.take_add
    have eb : b.take (k + lcp (a.drop k) (b.drop k)) = b.take k ++ (b.drop k).take (lcp (a.drop k) (b.drop k)) := List.take_add
    rw [ea, eb, e, t]
  · by_cases z1 : lcp (a.drop k) (b.drop k) = (a.drop k).length
    · rw [List.length_drop] at z1
      exact .inl (by omega)
    · by_cases z2 : lcp (a.drop k) (b.drop k) = (b.drop k).length
      · rw [List.length_drop] at z2
        exact .inr (.inl (by omega))
      · have nx := lcp_next (a.drop k) (b.drop k) (by rw [List.length_drop] at z1 ⊢; omega) (by rw [List.length_drop] at z2 ⊢; omega)
        rw [List.getElem?_drop, List.getElem?_drop] at nx
        exact .inr (.inr nx)
/-- two words with periods that are alike over both periods together are one -/
theorem per_two {x y : W} {p q : Nat} (hp : 1 ≤ p) (hq : 1 ≤ q) (l : x.length = y.length) (hx : ∀ i, i + p < x.length → x[i]? = x[i + p]?) (hy : ∀ i, i + q < y.length → y[i]? = y[i + q]?) (h : x.take (p + q) = y.take (p + q)) : x = y := by
  have key : ∀ (n i : Nat), i < n → x[i]? = y[i]? := fun n => by
    induction n with
    | zero => intro i h; omega
    | succ n ih =>
      intro i hi
      by_cases hn : i < n
      · exact ih i hn
      · by_cases hl : i < x.length
        · by_cases hs : i < p + q
          · have := congrArg (fun l => l[i]?) h
            simp only [List.getElem?_take] at this
            rwa [if_pos hs, if_pos hs] at this
          · have a1 := hx (i - p) (by omega)
            rw [show i - p + p = i by omega] at a1
            have a2 := hy (i - p - q) (by omega)
            rw [show i - p - q + q = i - p by omega] at a2
            have a3 := hx (i - p - q) (by omega)
            rw [show i - p - q + p = i - q by omega] at a3
            have a4 := hy (i - q) (by omega)
            rw [show i - q + q = i by omega] at a4
            have b1 := ih (i - p) (by omega)
            have b2 := ih (i - p - q) (by omega)
            have b3 := ih (i - q) (by omega)
            rw [← a1, b1, ← a2, ← b2, a3, b3, a4]
        · rw [List.getElem?_eq_none (by omega), List.getElem?_eq_none (by omega)]
  exact List.ext_getElem? fun i => key (i + 1) i (Nat.lt_succ_self i)
theorem tail_full {u : W} (h : u ≠ []) (t : Nat) : tailE u (u.length * t) = pw u t := by
  have n0 := List.length_pos_iff.mpr h
  unfold tailE
  rw [Nat.mul_mod_right, Nat.sub_zero, List.drop_length, List.nil_append, Nat.mul_div_cancel_left _ n0]
theorem tail_per {u : W} (h : u ≠ []) {r n : Nat} (hn : n ≤ r) : ∀ i, i + u.length < ((tailE u r).take n).length → ((tailE u r).take n)[i]? = ((tailE u r).take n)[i + u.length]? := fun i hi => by
  rw [List.length_take, tailE_len h] at hi
  rw [List.getElem?_take_of_lt (by omega), List.getElem?_take_of_lt (by omega), tailE_get h (by omega), tailE_get h (by omega)]
  congr 1
  rw [show i + u.length + (u.length - r % u.length) = i + (u.length - r % u.length) + u.length by omega, Nat.add_mod_right]
/-- one turn of the comparison -/
theorem turn {u v A B : W} {r1 r2 size look : Nat} (hu : u ≠ []) (hv : v ≠ []) (hs : size = min r1 r2) (hl : look = min size (u.length + v.length)) :
    (lcp ((tailE u r1).take look) ((tailE v r2).take look) < look → lcp (tailE u r1 ++ A) (tailE v r2 ++ B) = lcp ((tailE u r1).take look) ((tailE v r2).take look)) ∧
    (¬ lcp ((tailE u r1).take look) ((tailE v r2).take look) < look → lcp (tailE u r1 ++ A) (tailE v r2 ++ B) = size + lcp (tailE u (r1 - size) ++ A) (tailE v (r2 - size) ++ B)) := by
  have l1 := tailE_len hu r1
  have l2 := tailE_len hv r2
  have n1 := List.length_pos_iff.mpr hu
  have n2 := List.length_pos_iff.mpr hv
  have ta : ∀ k, k ≤ r1 → (tailE u r1 ++ A).take k = (tailE u r1).take k := fun k hk => List.take_append_of_le_length (by omega)
  have tb : ∀ k, k ≤ r2 → (tailE v r2 ++ B).take k = (tailE v r2).take k := fun k hk => List.take_append_of_le_length (by omega)
  constructor
  · intro lt
    have e1 := ta look (by omega)
    have e2 := tb look (by omega)
    have := lcp_short (a := tailE u r1 ++ A) (b := tailE v r2 ++ B) (k := look) (by rw [List.length_append]; omega) (by rw [List.length_append]; omega) (by rw [e1, e2]; exact lt)
    rw [this, e1, e2]
  · intro ge
    have le := lcp_le ((tailE u r1).take look) ((tailE v r2).take look)
    rw [List.length_take, List.length_take] at le
    have eq : (tailE u r1).take look = (tailE v r2).take look := by
      have := lcp_take ((tailE u r1).take look) ((tailE v r2).take look) look (by omega)
      rwa [List.take_take, List.take_take, Nat.min_self] at this
    have all : (tailE u r1).take size = (tailE v r2).take size := by
      by_cases z : size ≤ u.length + v.length
      · rw [show look = size by omega] at eq
        exact eq
      · have el : look = u.length + v.length := by omega
        refine per_two (p := u.length) (q := v.length) n1 n2 (by rw [List.length_take, List.length_take]; omega) (tail_per hu (by omega)) (tail_per hv (by omega)) ?_
        rw [List.take_take, List.take_take, Nat.min_eq_left (by omega), ← el]
        exact eq
    have := lcp_go (a := tailE u r1 ++ A) (b := tailE v r2 ++ B) (k := size) (by rw [List.length_append]; omega) (by rw [List.length_append]; omega) (by rw [ta size (by omega), tb size (by omega)]; exact all)
    rw [this, List.drop_append_of_le_length (by omega), List.drop_append_of_le_length (by omega)]
    have d1 := tailE_drop hu (n := r1) (k := r1 - size) (by omega)
    have d2 := tailE_drop hv (n := r2) (k := r2 - size) (by omega)
    rw [show r1 - (r1 - size) = size by omega] at d1
    rw [show r2 - (r2 - size) = size by omega] at d2
    rw [d1, d2]
end WM

set_option linter.all false
namespace CK
open PySem PySem.Spec PyProof.Rows L2 SX
section
variable {X : Cx}
/-- the difference of two Booleans -/
theorem op_subB : OpR X (binaryOp .Sub) (fun x y H Q => ∃ (a b : Bool), x = .bl a ∧ y = .bl b ∧ Q (.int (b2i a - b2i b)) H) := by
  intro pins s σ H x y v u Q I rx ry h
  obtain ⟨a, b, rfl, rfl, q⟩ := h
  obtain rfl : v = Value.bool a := rx
  obtain rfl : u = Value.bool b := ry
  exact sub_bool ⟨.int _, H, I.tok _, ⟨_, rfl⟩, q⟩
end
end CK

set_option Elab.async false
set_option linter.all false
set_option maxRecDepth 100000
set_option maxHeartbeats 2000000
/-! != of two objects of an own class that has an __eq__ and no __ne__ -/
namespace CK
open PySem PySem.Spec PyProof.Rows L2 SX
/-- the class has object's __ne__ -/
structure NeF (K : PySem.W.Frag) (C : Addr) : Prop where
  ne : PySem.W.findIn K (.ref C) "__ne__" = some (some (.builtin "object.__ne__"))
  sub : PySem.W.subIn K (.ref C) (.type "object") = some true
theorem neF_mk {K : PySem.W.Frag} {mg : Str → Option Value} {x : Str} {C : Addr} (_ : ClF K mg x C) (a : PySem.W.findIn K (.ref C) "__ne__" = some (some (.builtin "object.__ne__"))) (b : PySem.W.subIn K (.ref C) (.type "object") = some true) : NeF K C := ⟨a, b⟩
section
variable {prog : Program} {w : World} {A : Around} {E : Value → Shared → Prop} {s : Shared} {K : PySem.W.Frag} {x C f : Addr} {ox : Obj} {od : Option Obj} {b : Value}
theorem ne_body (hu : A.units < cLine) (X : K.In s.heap) (I : PySem.W.InstAt s.heap x ox C od) (hs : PySem.W.findIn K (.ref C) "__eq__" = some (some (.ref f))) (hf : PySem.W.isFn K (.ref f) = true) {Q : Fin → Shared → Prop}
    (h : wpAny (model prog w) A (call (.ref f) [.ref x, b]) (fun v s' => ∃ r, v = .bool r ∧ Q (.done (.ret (.bool !r))) s') E s) : wpAny (model prog w) A (Builtin.«object.__ne__» ⟨[.ref x, b], []⟩) Q E s := by
  have key : wpAny (model prog w) A (callSpecialIfBound? (.ref x) "__eq__" [b]) (fun v s' => ∃ r, v = some (.bool r) ∧ Q (.done (.ret (.bool !r))) s') E s :=
    PySem.W.ifBound_K X I hs hf (wpAny_mono h (fun v s' z => by obtain ⟨r, rfl, q⟩ := z; exact ⟨r, rfl, q⟩) fun _ _ e => e)
  unfold Builtin.«object.__ne__»
  refine wpAny_bind (wpAny_pure ?_)
  dsimp only
  refine wpAny_bind (wpAny_cRoomFor hu ?_)
  refine wpAny_bind (wpAny_mono key (fun v s' z => ?_) fun _ _ e => e)
  obtain ⟨r, rfl, q⟩ := z
  dsimp only
  refine wpAny_bind (wpAny_pure ?_)
  exact wpAny_pure q
theorem isInst_K {M : Model} {Q : Bool → Shared → Prop} {t : Value} {r : Bool} (X : K.In s.heap) (I : PySem.W.InstAt s.heap x ox C od) (hs : PySem.W.subIn K (.ref C) t = some r) (q : Q r s) : wpAny M A (isInstance (.ref x) t) Q E s := by
  unfold isInstance
  refine wpAny_bind (I.type.here ?_)
  exact (PySem.W.looks_subIn X hs).here q
theorem check_ne {M : Model} {Q : Unit → Shared → Prop} (X : K.In s.heap) (I : PySem.W.InstAt s.heap x ox C od) (nf : NeF K C) (q : Q () s) : wpAny M A (checkBuiltinCall "object.__ne__" ⟨[.ref x, b], []⟩) Q E s := by
  have ha := PySem.F.cmpArgs_ne (.ref x) b
  simp only [checkBuiltinCall, PySem.F.cmpKind_ne, PySem.F.cmpSplit_ne]
  refine wpAny_bind ?_
  refine wpAny_bind (I.type.here ?_)
  refine (PySem.W.looks_subIn X nf.sub).here ?_
  simp only [Bool.not_true, Bool.false_eq_true, if_false]
  cases hsig : Manifest.signature? "object.__ne__" with
  | none => exact wpAny_pure q
  | some sig =>
    simp only [argsOk, hsig] at ha
    have h2 : Bind.checkArgs "object.__ne__" sig ⟨[.ref x, b], []⟩ = pure () := ha
    show wpAny M A (Bind.checkArgs "object.__ne__" sig ⟨[.ref x, b], []⟩) Q E _
    rw [h2]
    exact wpAny_pure q
theorem call_ne (hu : A.in1.units < cLine) (X : K.In s.heap) (I : PySem.W.InstAt s.heap x ox C od) (nf : NeF K C) (hs : PySem.W.findIn K (.ref C) "__eq__" = some (some (.ref f))) (hf : PySem.W.isFn K (.ref f) = true) {Q : Value → Shared → Prop}
    (h : wpAny (model prog w) A.in1 (call (.ref f) [.ref x, b]) (fun v s' => ∃ r, v = .bool r ∧ Q (.bool !r) s') E s) : wpAny (model prog w) A (call (.builtin "object.__ne__") [.ref x, b]) Q E s :=
  wpAny_call (codeAny_call_builtin PySem.F.cmp_object.ne.plain PySem.F.cmpEntry_ne (check_ne X I nf (ne_body hu X I hs hf h)))
theorem ifBound_ne {M : Model} {args : List Value} {Q : Option Value → Shared → Prop} (X : K.In s.heap) (I : PySem.W.InstAt s.heap x ox C od) (nf : NeF K C)
    (h : wpAny M A (call (.builtin "object.__ne__") (.ref x :: args)) (fun v => Q (some v)) E s) : wpAny M A (callSpecialIfBound? (.ref x) "__ne__" args) Q E s := by
  simp only [callSpecialIfBound?, bindSpecialIfBound?]
  refine wpAny_holding (wpAny_bind (wpAny_bind (wpAny_bind (I.type.here ((PySem.W.looks_findIn X nf.ne).here ?_)))))
  simp only [PySem.F.cmp_object.ne.bind]
  refine wpAny_bind (wpAny_askSetting (wpAny_ite ?_))
  have fin : wpAny M A (call (.builtin "object.__ne__") ([.ref x] ++ args) >>= fun v => pure (some v)) Q E s := wpAny_bind (wpAny_mono h (fun v s' h' => wpAny_pure h') fun _ _ h' => h')
  split
  · exact wpAny_bind (wpAny_pure (wpAny_pure fin))
  · exact wpAny_tryCatch (wpAny_bind (wpAny_pure (wpAny_pure fin)))
theorem cmp_ne {Q : Value → Shared → Prop} {y : Addr} {oy : Obj} {od' : Option Obj} (hu : A.units < cLine) (hu1 : A.in1.units < cLine) (X : K.In s.heap) (I : PySem.W.InstAt s.heap x ox C od) (I' : PySem.W.InstAt s.heap y oy C od') (nf : NeF K C)
    (hs : PySem.W.findIn K (.ref C) "__eq__" = some (some (.ref f))) (hf : PySem.W.isFn K (.ref f) = true)
    (h : wpAny (model prog w) A.in1 (call (.ref f) [.ref x, .ref y]) (fun v s' => ∃ r, v = .bool r ∧ Q (.bool !r) s') E s) : wpAny (model prog w) A (richCompare .NotEq (.ref x) (.ref y)) Q E s := by
  have one : wpAny (model prog w) A (tryCompare (.ref x) (cmpInfo .NotEq).2.1 (.ref y)) (fun r s' => ∃ v, r = some v ∧ Q v s') E s := by
    unfold tryCompare
    refine wpAny_bind (ifBound_ne X I nf (call_ne hu1 X I nf hs hf (wpAny_mono h (fun v s' z => ?_) fun _ _ e => e)))
    obtain ⟨r, rfl, q⟩ := z
    exact ⟨r, rfl, wpAny_pure ⟨_, rfl, q⟩⟩
  unfold richCompare
  simp only [oneThing_ref]
  refine wpAny_holding (wpAny_bind (wpAny_cRoomFor hu ?_))
  refine wpAny_bind (I.type.here (wpAny_bind (I'.type.here ?_)))
  rw [if_neg (by simp)]
  refine wpAny_bind (wpAny_pure ?_)
  simp only [Bool.false_eq_true, if_false]
  refine wpAny_bind (wpAny_mono one (fun r s' z => ?_) fun _ _ e => e)
  obtain ⟨v, rfl, hq⟩ := z
  exact wpAny_pure hq
end
section
variable {X : Cx} {k j : Nat} {C : Addr} {sp : Sp}
def rNeO (C : Addr) (sp : Sp) : R2 := fun x y H Q => ∃ a b dx fs dy gs, x = .ref a ∧ y = .ref b ∧ H a = some (.ins C dx fs) ∧ H b = some (.ins C dy gs) ∧ sp [.ref a, .ref b] H (fun v H' => ∃ r, v = .bl r ∧ Q (.bl !r) H') C8.E0
theorem op_neO (c : C8.Met X.prog X.w X.K X.mg X.base k C "__eq__" sp []) (nf : NeF X.K C) (hr : Room j X.A) (hk : k + 1 ≤ j) : OpR X (compareOp .NotEq) (rNeO C sp) := by
  intro pins s σ H x y v u Q I rx ry h
  obtain ⟨a, b, dx, fs, dy, gs, rfl, rfl, ha, hb', hsp⟩ := h
  obtain ⟨f, fd, ps, ds, hc, hm, F, bnd, d⟩ := c.ex
  cases d
  cases rx
  cases ry
  obtain ⟨mA, J, _⟩ := ins_get I.hok ha
  obtain ⟨mB, J', _⟩ := ins_get I.hok hb'
  obtain ⟨od, J, _⟩ := J.look
  obtain ⟨od', J', _⟩ := J'.look
  have hr' := (hr.mono hk).in1
  show wpAny (model X.prog X.w) X.A (richCompare .NotEq (.ref a) (.ref b)) (EP X pins σ Q) X.xe s
  refine cmp_ne hr.units0 hr'.units0 I.kIn J J' nf hm.at_ hm.fn ?_
  have hl := F.len _ _ _ _ hsp
  have r2 : Vals [V.ref a, V.ref b] [Value.ref a, Value.ref b] := .cons rfl (.cons rfl .nil)
  have I1 := I.env0.in1
  refine wpAny_call (codeAny_mono (F.run X.A.in1 X.stack s H ⟨[.ref a, .ref b], []⟩ [.ref a, .ref b] [.ref a, .ref b] _ C8.E0 hr' I1 (by
    have := bnd s [.ref a, .ref b] I.kIn (by simpa using hl)
    simpa using this) r2 hsp) fun r s' hq => ?_)
  cases r with
  | error e => exact C8.pass0 (E := C8.E0) pins σ H s e s' I hq
  | ok fl =>
    cases fl with
    | ret w =>
      obtain ⟨z, H', I', rz, r, ez, q⟩ := I.after hq
      subst ez
      cases rz
      exact ⟨r, rfl, .bl !r, H', I', rfl, q⟩
    | next => exact False.elim hq
    | brk => exact False.elim hq
    | cont => exact False.elim hq
end
end CK

set_option linter.all false
set_option maxRecDepth 100000
/-! normal lists of pieces: the program's steps as functions, and what they keep -/
namespace NM
open WM
abbrev F := List Nat
abbrev Pn := W × F
def isOpen (f : F) : Bool := f.tail.any fun x => decide (x ≠ 0)
def isPow (p : Pn) : Bool := decide (p.2.headD 0 = 0)
def one1 (m : Nat) : F := 1 :: List.replicate m 0
def fixP (w : W) (m : Nat) : Pn := (w, one1 m)
def addF (f g : F) : F := List.zipWith (fun x y => x + y) f g
def timesF (k : Nat) (f : F) : F := f.map fun x => k * x
def joinF (acc : List Pn) (w : W) (m : Nat) : List Pn :=
  match acc.getLast? with
  | some q => if isPow q then (if w = [] then acc else acc ++ [fixP w m]) else (if q.1 ++ w = [] then acc.dropLast else acc.dropLast ++ [fixP (q.1 ++ w) m])
  | none => if w = [] then acc else acc ++ [fixP w m]
/-- a power, behind what is no fixed piece -/
def pushP (acc : List Pn) (u : W) (f : F) : List Pn :=
  match acc.getLast? with
  | some q => if isPow q ∧ q.1 = u then acc.dropLast ++ [(u, addF q.2 f)] else acc ++ [(u, f)]
  | none => acc ++ [(u, f)]
def putP (acc : List Pn) (u : W) (f : F) : List Pn :=
  match acc.getLast? with
  | some q => if isPow q then joinF (pushP acc u f) [] (f.length - 1)
    else joinF (pushP (joinF acc.dropLast (q.1.take (q.1.length - movedE q.1 u)) (f.length - 1)) (rotR u (movedE q.1 u)) f) (q.1.drop (q.1.length - movedE q.1 u)) (f.length - 1)
  | none => joinF (pushP acc u f) [] (f.length - 1)
def stepA (acc : List Pn) (p : Pn) : List Pn := if p.1 ≠ [] ∧ isOpen p.2 then putP acc (p.1.take (rootN p.1)) (timesF (p.1.length / rootN p.1) (0 :: p.2.tail)) else acc
def stepB (acc : List Pn) (p : Pn) : List Pn := if p.1 ≠ [] ∧ p.2.headD 0 ≠ 0 then joinF acc (pw p.1 (p.2.headD 0)) (p.2.length - 1) else acc
def stepN (acc : List Pn) (p : Pn) : List Pn := stepB (stepA acc p) p
def normL (ps : List Pn) : List Pn := ps.foldl stepN []

/-! ### what is written at a point -/
def dot : List Nat → List Nat → Nat
  | x :: xs, y :: ys => x * y + dot xs ys
  | _, _ => 0
def valF (f : F) (pt : List Nat) : Nat := f.headD 0 + dot f.tail pt
def wrt (pt : List Nat) (p : Pn) : W := pw p.1 (valF p.2 pt)
def wr (pt : List Nat) : List Pn → W
  | [] => []
  | p :: r => wrt pt p ++ wr pt r
theorem wr_app (pt : List Nat) : ∀ a b, wr pt (a ++ b) = wr pt a ++ wr pt b
  | [], b => rfl
  | p :: r, b => by rw [List.cons_append, wr, wr, wr_app pt r b, List.append_assoc]
theorem wr_one (pt : List Nat) (p : Pn) : wr pt [p] = wrt pt p := by rw [wr, wr, List.append_nil]
theorem dot_zero : ∀ (m : Nat) (pt : List Nat), dot (List.replicate m 0) pt = 0
  | 0, _ => by simp [dot]
  | m + 1, [] => by simp [dot, List.replicate_succ]
  | m + 1, y :: ys => by rw [List.replicate_succ, dot, dot_zero m ys]; simp
theorem val_one (m : Nat) (pt : List Nat) : valF (one1 m) pt = 1 := by
  unfold valF one1
  simp [dot_zero]
theorem pw_one (w : W) : pw w 1 = w := by rw [pw_succ, pw_zero, List.append_nil]
theorem wrt_fix (pt : List Nat) (w : W) (m : Nat) : wrt pt (fixP w m) = w := by
  unfold wrt fixP
  rw [val_one, pw_one]
theorem last_split {α : Type} {l : List α} {q : α} (h : l.getLast? = some q) : l = l.dropLast ++ [q] := by
  obtain ⟨ne, e⟩ := List.getLast?_eq_some_iff.mp h
  subst e
  simp
theorem dot_add : ∀ (f g pt : List Nat), f.length = g.length → dot (List.zipWith (fun x y => x + y) f g) pt = dot f pt + dot g pt
  | [], [], _, _ => by simp [dot]
  | _ :: _, [], _, h => by simp at h
  | [], _ :: _, _, h => by simp at h
  | x :: f, y :: g, [], _ => by simp [dot]
  | x :: f, y :: g, z :: pt, h => by
    rw [List.zipWith_cons_cons, dot, dot, dot, dot_add f g pt (by simpa using h), Nat.add_mul]
    omega
theorem val_add {f g : F} (pt : List Nat) (h : f.length = g.length) : valF (addF f g) pt = valF f pt + valF g pt := by
  cases f with
  | nil =>
    cases g with
    | nil => simp [valF, addF, dot]
    | cons _ _ => simp at h
  | cons x f =>
    cases g with
    | nil => simp at h
    | cons y g =>
      unfold valF addF
      rw [List.zipWith_cons_cons]
      simp only [List.headD_cons, List.tail_cons]
      rw [dot_add f g pt (by simpa using h)]
      omega
theorem dot_times (k : Nat) : ∀ (f pt : List Nat), dot (f.map fun x => k * x) pt = k * dot f pt
  | [], _ => by simp [dot]
  | x :: f, [] => by simp [dot]
  | x :: f, y :: pt => by rw [List.map_cons, dot, dot, dot_times k f pt, Nat.mul_add, Nat.mul_assoc]
theorem val_times (k : Nat) (f : F) (pt : List Nat) : valF (timesF k f) pt = k * valF f pt := by
  cases f with
  | nil => simp [valF, timesF, dot]
  | cons x f =>
    unfold valF timesF
    rw [List.map_cons]
    simp only [List.headD_cons, List.tail_cons]
    rw [dot_times, Nat.mul_add]
/-- forms as they stand in a list for m unknowns -/
def LenF (m : Nat) (ps : List Pn) : Prop := ∀ p ∈ ps, p.2.length = m + 1
/-- the fixed pieces have the form of one -/
def FixOk (m : Nat) (ps : List Pn) : Prop := ∀ p ∈ ps, isPow p = false → p.2 = one1 m
theorem isPow_fix (w : W) (m : Nat) : isPow (fixP w m) = false := rfl
theorem wr_joinF {acc : List Pn} {m : Nat} (h : FixOk m acc) (w : W) (pt : List Nat) : wr pt (joinF acc w m) = wr pt acc ++ w := by
  unfold joinF
  split
  · next q hq =>
    have e := last_split hq
    have mem : q ∈ acc := List.mem_of_getLast? hq
    split
    · split
      · next z => rw [z, List.append_nil]
      · rw [wr_app, wr_one, wrt_fix]
    · next np =>
      have f1 := h q mem (by simpa using np)
      have wq : wrt pt q = q.1 := by unfold wrt; rw [f1, val_one, pw_one]
      have ew : wr pt acc = wr pt acc.dropLast ++ q.1 := by
        conv => lhs; rw [e]
        rw [wr_app, wr_one, wq]
      split
      · next z =>
        rw [ew]
        have z1 := (List.append_eq_nil_iff.mp z).1
        have z2 := (List.append_eq_nil_iff.mp z).2
        rw [z1, z2, List.append_nil, List.append_nil]
      · rw [wr_app, wr_one, wrt_fix, ew, List.append_assoc]
  · split
    · next z => rw [z, List.append_nil]
    · rw [wr_app, wr_one, wrt_fix]
theorem wr_pushP {acc : List Pn} {m : Nat} (h : LenF m acc) {u : W} {f : F} (hf : f.length = m + 1) (pt : List Nat) : wr pt (pushP acc u f) = wr pt acc ++ wrt pt (u, f) := by
  unfold pushP
  split
  · next q hq =>
    have e := last_split hq
    have mem : q ∈ acc := List.mem_of_getLast? hq
    split
    · next z =>
      have ew : wr pt acc = wr pt acc.dropLast ++ wrt pt q := by
        conv => lhs; rw [e]
        rw [wr_app, wr_one]
      rw [wr_app, wr_one, ew, List.append_assoc]
      congr 1
      show pw u (valF (addF q.2 f) pt) = pw q.1 (valF q.2 pt) ++ pw u (valF f pt)
      rw [val_add pt (by rw [h q mem, hf]), pw_add, z.2]
    · rw [wr_app, wr_one]
  · rw [wr_app, wr_one]

/-! ### the fold's facts -/
theorem get_dropLast {α : Type} {l : List α} {i : Nat} {x : α} (h : l.dropLast[i]? = some x) : l[i]? = some x := by
  rw [List.getElem?_dropLast] at h
  split at h
  · exact h
  · cases h
theorem mem_dropLast {α : Type} {l : List α} {x : α} (h : x ∈ l.dropLast) : x ∈ l := List.dropLast_subset _ h
structure NormP (m : Nat) (p : Pn) : Prop where
  ne : p.1 ≠ []
  len : p.2.length = m + 1
  fix : isPow p = false → p.2 = one1 m
  pow : isPow p = true → Prim p.1 ∧ isOpen p.2 = true
structure Adj (p q : Pn) : Prop where
  fix : isPow p = false → isPow q = true ∧ p.1.getLast? ≠ q.1.getLast?
  pow : isPow p = true → isPow q = true → p.1 ≠ q.1
structure Nm (m : Nat) (ps : List Pn) : Prop where
  all : ∀ p ∈ ps, NormP m p
  adj : ∀ i p q, ps[i]? = some p → ps[i + 1]? = some q → Adj p q
theorem Nm.nil {m : Nat} : Nm m [] := ⟨fun p h => absurd h List.not_mem_nil, fun i p q h => by simp at h⟩
theorem Nm.init {m : Nat} {l : List Pn} (h : Nm m l) : Nm m l.dropLast :=
  ⟨fun p hp => h.all p (mem_dropLast hp), fun i p q hp hq => h.adj i p q (get_dropLast hp) (get_dropLast hq)⟩
theorem Nm.snoc {m : Nat} {l : List Pn} {p : Pn} (h : Nm m l) (hp : NormP m p) (ha : ∀ q, l.getLast? = some q → Adj q p) : Nm m (l ++ [p]) := by
  refine ⟨fun q hq => ?_, fun i a b hi hj => ?_⟩
  · rcases List.mem_append.mp hq with z | z
    · exact h.all q z
    · rw [List.mem_singleton.mp z]
      exact hp
  · by_cases z : i + 1 < l.length
    · rw [List.getElem?_append_left (by omega)] at hi
      rw [List.getElem?_append_left z] at hj
      exact h.adj i a b hi hj
    · by_cases y : i + 1 = l.length
      · rw [List.getElem?_append_left (by omega)] at hi
        rw [List.getElem?_append_right (by omega), y, Nat.sub_self] at hj
        cases hj
        refine ha a ?_
        rw [List.getLast?_eq_getElem?, ← hi]
        congr 1
        omega
      · rw [List.getElem?_append_right (by omega), List.getElem?_eq_none (by simp; omega)] at hj
        cases hj
/-- the piece ahead of the last one -/
theorem Nm.pre {m : Nat} {l : List Pn} {p q : Pn} (h : Nm m l) (hp : l.getLast? = some p) (hq : l.dropLast.getLast? = some q) : Adj q p := by
  rw [List.getLast?_eq_getElem?] at hp hq
  have hq' := get_dropLast hq
  rw [List.length_dropLast] at hq'
  have hl := (List.getElem?_eq_some_iff.mp hq).1
  rw [List.length_dropLast] at hl
  refine h.adj (l.length - 1 - 1) q p hq' ?_
  rw [← hp]
  congr 1
  omega
theorem fixP_norm {m : Nat} {w : W} (h : w ≠ []) : NormP m (fixP w m) := ⟨h, by simp [fixP, one1], fun _ => rfl, fun z => by cases z⟩
/-- a fixed word behind a normal list -/
theorem nm_joinF {m : Nat} {acc : List Pn} (h : Nm m acc) (w : W) : Nm m (joinF acc w m) := by
  unfold joinF
  split
  · next q hq =>
    split
    · next pq =>
      split
      · exact h
      · next ne =>
        refine h.snoc (fixP_norm ne) fun q' hq' => ?_
        rw [hq] at hq'
        cases hq'
        exact ⟨fun z => (by rw [pq] at z; cases z), fun _ z => (by cases z)⟩
    · next pq =>
      split
      · exact h.init
      · next ne =>
        refine h.init.snoc (fixP_norm ne) fun q' hq' => ?_
        have a := h.pre hq hq'
        have pq' : isPow q = false := by simpa using pq
        exact ⟨fun z => (by have := (a.fix z).1; rw [pq'] at this; cases this), fun _ z => (by cases z)⟩
  · next hn =>
    split
    · exact h
    · next ne =>
      refine h.snoc (fixP_norm ne) fun q' hq' => ?_
      rw [hn] at hq'
      cases hq'
theorem isOpen_iff {f : F} : isOpen f = true ↔ ∃ x ∈ f.tail, x ≠ 0 := by
  unfold isOpen
  rw [List.any_eq_true]
  constructor
  · rintro ⟨x, hx, h⟩
    exact ⟨x, hx, by simpa using h⟩
  · rintro ⟨x, hx, h⟩
    exact ⟨x, hx, by simpa using h⟩
theorem open_add {f g : F} (hl : f.length = g.length) (h : isOpen g = true) : isOpen (addF f g) = true := by
  obtain ⟨x, hx, h0⟩ := isOpen_iff.mp h
  refine isOpen_iff.mpr ?_
  cases f with
  | nil =>
    cases g with
    | nil => cases hx
    | cons _ _ => simp at hl
  | cons a f =>
    cases g with
    | nil => simp at hl
    | cons b g =>
      obtain ⟨i, hi⟩ := List.getElem?_of_mem (show x ∈ g from hx)
      have hi2 := (List.getElem?_eq_some_iff.mp hi).1
      have hf : i < f.length := by simp at hl; omega
      refine ⟨f[i] + x, ?_, by omega⟩
      refine List.mem_of_getElem? (i := i) ?_
      show (List.zipWith (fun x y => x + y) f g)[i]? = _
      rw [List.getElem?_zipWith, List.getElem?_eq_getElem hf, hi]
theorem len_add {f g : F} (hl : f.length = g.length) : (addF f g).length = g.length := by
  unfold addF
  rw [List.length_zipWith]
  omega
theorem head_add {f g : F} (hl : f.length = g.length) (h1 : f.headD 0 = 0) (h2 : g.headD 0 = 0) : (addF f g).headD 0 = 0 := by
  cases f with
  | nil => simp [addF]
  | cons a f =>
    cases g with
    | nil => simp at hl
    | cons b g =>
      simp only [List.headD_cons] at h1 h2
      show a + b = 0
      omega
theorem pow_norm {m : Nat} {u : W} {f : F} (hu : Prim u) (hl : f.length = m + 1) (h0 : f.headD 0 = 0) (ho : isOpen f = true) : NormP m (u, f) ∧ isPow (u, f) = true := by
  have e : isPow (u, f) = true := decide_eq_true h0
  exact ⟨⟨hu.1, hl, fun z => (by rw [e] at z; cases z), fun _ => ⟨hu, ho⟩⟩, e⟩
/-- a power behind what does not end with its last letter -/
theorem nm_pushP {m : Nat} {acc : List Pn} (h : Nm m acc) {u : W} {f : F} (hu : Prim u) (hl : f.length = m + 1) (h0 : f.headD 0 = 0) (ho : isOpen f = true)
    (hx : ∀ q, acc.getLast? = some q → isPow q = false → q.1.getLast? ≠ u.getLast?) : Nm m (pushP acc u f) ∧ ∃ g, (pushP acc u f).getLast? = some (u, g) ∧ isPow (u, g) = true := by
  obtain ⟨np, pp⟩ := pow_norm hu hl h0 ho
  unfold pushP
  split
  · next q hq =>
    have mq := h.all q (List.mem_of_getLast? hq)
    split
    · next z =>
      obtain ⟨z1, z2⟩ := z
      have lq : q.2.length = f.length := by rw [mq.len, hl]
      have hq0 : q.2.headD 0 = 0 := of_decide_eq_true z1
      obtain ⟨np2, pp2⟩ := pow_norm (m := m) (f := addF q.2 f) hu (by rw [len_add lq, hl]) (head_add lq hq0 h0) (open_add lq ho)
      refine ⟨h.init.snoc np2 fun q' hq' => ?_, _, by simp, pp2⟩
      have a := h.pre hq hq'
      exact ⟨fun y => ⟨pp2, by have := (a.fix y).2; rw [z2] at this; exact this⟩, fun y _ => by have := a.pow y z1; rw [z2] at this; exact this⟩
    · next z =>
      refine ⟨h.snoc np fun q' hq' => ?_, _, by simp, pp⟩
      rw [hq] at hq'
      cases hq'
      exact ⟨fun y => ⟨pp, hx q hq y⟩, fun y _ e => z ⟨y, e⟩⟩
  · next hn =>
    refine ⟨h.snoc np fun q' hq' => ?_, _, by simp, pp⟩
    rw [hn] at hq'
    cases hq'
theorem joinF_nil {acc : List Pn} {q : Pn} {m : Nat} (h : acc.getLast? = some q) (hp : isPow q = true) : joinF acc [] m = acc := by
  unfold joinF
  rw [h]
  simp [hp]
theorem nm_putP {m : Nat} {acc : List Pn} (h : Nm m acc) {u : W} {f : F} (hu : Prim u) (hl : f.length = m + 1) (h0 : f.headD 0 = 0) (ho : isOpen f = true) : Nm m (putP acc u f) := by
  have em : f.length - 1 = m := by omega
  unfold putP
  rw [em]
  split
  · next q hq =>
    split
    · next pq =>
      exact nm_joinF (nm_pushP h hu hl h0 ho fun q' hq' z => by rw [hq] at hq'; cases hq'; rw [pq] at z; cases z).1 _
    · next pq =>
      have pq' : isPow q = false := by simpa using pq
      refine nm_joinF (nm_pushP (nm_joinF h.init _) (prim_rotR hu _) hl h0 ho fun q' hq' z => ?_).1 _
      by_cases e : q.1.take (q.1.length - movedE q.1 u) = []
      · -- nothing is left of the fixed piece: what is ahead is a power
        exfalso
        rw [e] at hq'
        have : joinF acc.dropLast [] m = acc.dropLast := by
          cases hd : acc.dropLast.getLast? with
          | none =>
            unfold joinF
            rw [hd]
            simp
          | some r =>
            have a := h.pre hq hd
            have pr : isPow r = true := by
              cases y : isPow r with
              | true => rfl
              | false =>
                have := (a.fix y).1
                rw [pq'] at this
                cases this
            exact joinF_nil hd pr
        rw [this] at hq'
        have a := h.pre hq hq'
        have := (a.fix z).1
        rw [pq'] at this
        cases this
      · have lt : movedE q.1 u < q.1.length := by
          have := List.length_pos_iff.mpr e
          rw [List.length_take] at this
          omega
        have eq : joinF acc.dropLast (q.1.take (q.1.length - movedE q.1 u)) m = acc.dropLast ++ [fixP (q.1.take (q.1.length - movedE q.1 u)) m] := by
          unfold joinF
          split
          · next r hr =>
            have a := h.pre hq hr
            have pr : isPow r = true := by
              cases y : isPow r with
              | true => rfl
              | false =>
                have := (a.fix y).1
                rw [pq'] at this
                cases this
            rw [if_pos pr, if_neg e]
          · rw [if_neg e]
        rw [eq] at hq'
        rw [List.getLast?_append] at hq'
        cases hq'
        exact moved_next hu.1 lt
  · next hn =>
    exact nm_joinF (nm_pushP h hu hl h0 ho fun q' hq' => by rw [hn] at hq'; cases hq').1 _
theorem open_times {k : Nat} (hk : 0 < k) {f : F} (h : isOpen f = true) : isOpen (timesF k (0 :: f.tail)) = true := by
  obtain ⟨x, hx, h0⟩ := isOpen_iff.mp h
  refine isOpen_iff.mpr ⟨k * x, List.mem_map.mpr ⟨x, hx, rfl⟩, ?_⟩
  have := Nat.mul_pos hk (Nat.pos_of_ne_zero h0)
  omega
theorem root_times {w : W} (h : w ≠ []) : 0 < w.length / rootN w := Nat.div_pos (rootN_le h) (rootN_pos h)
theorem nm_stepA {m : Nat} {acc : List Pn} (h : Nm m acc) {p : Pn} (hl : p.2.length = m + 1) : Nm m (stepA acc p) := by
  unfold stepA
  split
  · next z =>
    refine nm_putP h (root_prim z.1) ?_ ?_ (open_times (root_times z.1) z.2)
    · unfold timesF
      simp [hl]
    · simp [timesF]
  · exact h
theorem nm_stepB {m : Nat} {acc : List Pn} (h : Nm m acc) {p : Pn} (hl : p.2.length = m + 1) : Nm m (stepB acc p) := by
  unfold stepB
  split
  · have e : p.2.length - 1 = m := by omega
    rw [e]
    exact nm_joinF h _
  · exact h
theorem nm_fold {m : Nat} : ∀ (ps acc : List Pn), Nm m acc → LenF m ps → Nm m (ps.foldl stepN acc)
  | [], _, h, _ => h
  | p :: r, acc, h, hl => nm_fold r _ (nm_stepB (nm_stepA h (hl p List.mem_cons_self)) (hl p List.mem_cons_self)) fun q hq => hl q (List.mem_cons_of_mem _ hq)
theorem nm_normL {m : Nat} {ps : List Pn} (h : LenF m ps) : Nm m (normL ps) := nm_fold ps [] .nil h
theorem Nm.lenF {m : Nat} {ps : List Pn} (h : Nm m ps) : LenF m ps := fun p hp => (h.all p hp).len
theorem Nm.fixOk {m : Nat} {ps : List Pn} (h : Nm m ps) : FixOk m ps := fun p hp => (h.all p hp).fix
/-! ### what is written stays -/
theorem wr_putP {m : Nat} {acc : List Pn} (h : Nm m acc) {u : W} {f : F} (hu : Prim u) (hl : f.length = m + 1) (h0 : f.headD 0 = 0) (ho : isOpen f = true) (pt : List Nat) : wr pt (putP acc u f) = wr pt acc ++ wrt pt (u, f) := by
  have em : f.length - 1 = m := by omega
  have one : ∀ {acc : List Pn}, Nm m acc → (∀ q, acc.getLast? = some q → isPow q = true) → wr pt (joinF (pushP acc u f) [] m) = wr pt acc ++ wrt pt (u, f) := fun {acc} h hp => by
    obtain ⟨n, g, hg, pg⟩ := nm_pushP h hu hl h0 ho fun q' hq' z => by rw [hp q' hq'] at z; cases z
    rw [joinF_nil hg pg, wr_pushP h.lenF hl]
  unfold putP
  rw [em]
  split
  · next q hq =>
    split
    · next pq => exact one h fun q' hq' => by rw [hq] at hq'; cases hq'; exact pq
    · next pq =>
      have pq' : isPow q = false := by simpa using pq
      have e := last_split hq
      have mq := h.all q (List.mem_of_getLast? hq)
      have wq : wrt pt q = q.1 := by unfold wrt; rw [mq.fix pq', val_one, pw_one]
      have n1 := nm_joinF h.init (q.1.take (q.1.length - movedE q.1 u)) (m := m)
      have n2 : Nm m (putP acc u f) := nm_putP h hu hl h0 ho
      have l2 : FixOk m (pushP (joinF acc.dropLast (q.1.take (q.1.length - movedE q.1 u)) m) (rotR u (movedE q.1 u)) f) := by
        intro p hp z
        unfold pushP at hp
        have pr : isPow (rotR u (movedE q.1 u), f) = true := decide_eq_true h0
        split at hp
        · next r hr =>
          split at hp
          · next y =>
            rcases List.mem_append.mp hp with x | x
            · exact n1.fixOk p (mem_dropLast x) z
            · rw [List.mem_singleton.mp x] at z
              have : isPow (rotR u (movedE q.1 u), addF r.2 f) = true := decide_eq_true (head_add (by rw [n1.lenF r (List.mem_of_getLast? hr), hl]) (of_decide_eq_true y.1) h0)
              rw [this] at z
              cases z
          · rcases List.mem_append.mp hp with x | x
            · exact n1.fixOk p x z
            · rw [List.mem_singleton.mp x, pr] at z
              cases z
        · rcases List.mem_append.mp hp with x | x
          · exact n1.fixOk p x z
          · rw [List.mem_singleton.mp x, pr] at z
            cases z
      rw [wr_joinF l2, wr_pushP n1.lenF hl, wr_joinF h.init.fixOk]
      have ew : wr pt acc = wr pt acc.dropLast ++ q.1 := by
        conv => lhs; rw [e]
        rw [wr_app, wr_one, wq]
      rw [ew, moved_drop hu.1]
      have mv := move_pw u (movedE q.1 u) (valF f pt)
      rw [List.append_assoc, List.append_assoc, List.append_assoc]
      congr 1
      show q.1.take _ ++ (pw (rotR u (movedE q.1 u)) (valF f pt) ++ tailE u (movedE q.1 u)) = q.1 ++ pw u (valF f pt)
      rw [mv, ← moved_drop hu.1, ← List.append_assoc, List.take_append_drop]
  · next hn => exact one h fun q' hq' => by rw [hn] at hq'; cases hq'
theorem pw_mul (w : W) (a : Nat) : ∀ b, pw (pw w a) b = pw w (a * b)
  | 0 => by simp [pw]
  | b + 1 => by rw [pw_succ, pw_mul w a b, ← pw_add, Nat.mul_succ, Nat.add_comm]
theorem pw_nil (n : Nat) : pw [] n = [] := List.length_eq_zero_iff.mp (by rw [pw_len]; simp)
theorem val_split (f : F) (pt : List Nat) : valF f pt = valF (0 :: f.tail) pt + f.headD 0 := by
  unfold valF
  simp
  omega
theorem dot_closed : ∀ {f : List Nat}, (∀ x ∈ f, x = 0) → ∀ pt : List Nat, dot f pt = 0
  | [], _, _ => by simp [dot]
  | x :: f, h, [] => by simp [dot]
  | x :: f, h, y :: pt => by
    rw [dot, dot_closed (fun z hz => h z (List.mem_cons_of_mem _ hz)) pt, h x List.mem_cons_self]
    simp
theorem wr_stepN {m : Nat} {acc : List Pn} (h : Nm m acc) {p : Pn} (hl : p.2.length = m + 1) (pt : List Nat) : wr pt (stepN acc p) = wr pt acc ++ wrt pt p := by
  have hA := nm_stepA h hl
  have wA : wr pt (stepA acc p) = wr pt acc ++ pw p.1 (valF (0 :: p.2.tail) pt) := by
    unfold stepA
    split
    · next z =>
      have lt : (timesF (p.1.length / rootN p.1) (0 :: p.2.tail)).length = m + 1 := by unfold timesF; simp [hl]
      rw [wr_putP h (root_prim z.1) lt (by simp [timesF]) (open_times (root_times z.1) z.2)]
      congr 1
      show pw (p.1.take (rootN p.1)) (valF (timesF _ _) pt) = _
      rw [val_times, ← pw_mul, ← root_pw z.1]
    · next z =>
      by_cases ne : p.1 = []
      · rw [ne, pw_nil, List.append_nil]
      · have hc : ∀ x ∈ p.2.tail, x = 0 := fun x hx => Classical.byContradiction fun y => z ⟨ne, isOpen_iff.mpr ⟨x, hx, y⟩⟩
        rw [show valF (0 :: p.2.tail) pt = 0 by unfold valF; simp [dot_closed hc], pw_zero, List.append_nil]
  have wB : wr pt (stepB (stepA acc p) p) = wr pt (stepA acc p) ++ pw p.1 (p.2.headD 0) := by
    unfold stepB
    split
    · have e : p.2.length - 1 = m := by omega
      rw [e, wr_joinF hA.fixOk]
    · next z =>
      by_cases ne : p.1 = []
      · rw [ne, pw_nil, List.append_nil]
      · have : p.2.headD 0 = 0 := Classical.byContradiction fun y => z ⟨ne, y⟩
        rw [this, pw_zero, List.append_nil]
  unfold stepN
  rw [wB, wA, List.append_assoc, ← pw_add, ← val_split]
  rfl
theorem wr_fold {m : Nat} (pt : List Nat) : ∀ (ps acc : List Pn), Nm m acc → LenF m ps → wr pt (ps.foldl stepN acc) = wr pt acc ++ wr pt ps
  | [], acc, _, _ => by simp [wr]
  | p :: r, acc, h, hl => by
    have lp := hl p List.mem_cons_self
    rw [List.foldl_cons, show stepN acc p = stepB (stepA acc p) p from rfl, wr_fold pt r _ (nm_stepB (nm_stepA h lp) lp) (fun q hq => hl q (List.mem_cons_of_mem _ hq)), show stepB (stepA acc p) p = stepN acc p from rfl, wr_stepN h lp, List.append_assoc]
    rfl
/-- the normal list writes the same -/
theorem wr_normL {m : Nat} {ps : List Pn} (h : LenF m ps) (pt : List Nat) : wr pt (normL ps) = wr pt ps := wr_fold pt ps [] .nil h
end NM

set_option linter.all false
set_option maxRecDepth 100000
namespace NM
open WM
/-! ### the measure -/
def measP (p : Pn) : Nat := p.1.length * (p.2.headD 0 + (if isOpen p.2 then 1 else 0))
def meas (ps : List Pn) : Nat := (ps.map measP).sum
theorem meas_app (a b : List Pn) : meas (a ++ b) = meas a + meas b := by unfold meas; rw [List.map_append, List.sum_append]
theorem meas_one (p : Pn) : meas [p] = measP p := by simp [meas]
theorem open_one (m : Nat) : isOpen (one1 m) = false := by
  unfold isOpen one1
  rw [List.any_eq_false]
  intro x hx
  have := List.eq_of_mem_replicate (show x ∈ List.replicate m 0 from hx)
  simp [this]
theorem measP_fix (w : W) (m : Nat) : measP (fixP w m) = w.length := by
  unfold measP fixP
  simp only [open_one]
  simp [one1]
theorem meas_last {l : List Pn} {q : Pn} (h : l.getLast? = some q) : meas l = meas l.dropLast + measP q := by
  conv => lhs; rw [last_split h]
  rw [meas_app, meas_one]
theorem meas_joinF {m : Nat} {acc : List Pn} (h : FixOk m acc) (w : W) : meas (joinF acc w m) = meas acc + w.length := by
  unfold joinF
  split
  · next q hq =>
    split
    · split
      · next z => rw [z]; rfl
      · rw [meas_app, meas_one, measP_fix]
    · next np =>
      have f1 := h q (List.mem_of_getLast? hq) (by simpa using np)
      have mq : measP q = q.1.length := by
        have : q = fixP q.1 m := by unfold fixP; rw [← f1]
        conv => lhs; rw [this]
        rw [measP_fix]
      have ml := meas_last hq
      split
      · next z =>
        have z1 := congrArg List.length z
        rw [List.length_append, List.length_nil] at z1
        omega
      · rw [meas_app, meas_one, measP_fix, List.length_append]
        omega
  · split
    · next z => rw [z]; rfl
    · rw [meas_app, meas_one, measP_fix]
theorem measP_pow {u : W} {f : F} (h0 : f.headD 0 = 0) : measP (u, f) ≤ u.length := by
  unfold measP
  simp only [h0, Nat.zero_add]
  split
  · rw [Nat.mul_one]
    exact Nat.le_refl _
  · rw [Nat.mul_zero]
    exact Nat.zero_le _
theorem meas_pushP {acc : List Pn} {u : W} {f : F} (h0 : f.headD 0 = 0) (hx : ∀ q, acc.getLast? = some q → isPow q = true → q.1 = u → (addF q.2 f).headD 0 = 0 ∧ u.length ≤ measP q) : meas (pushP acc u f) ≤ meas acc + u.length := by
  unfold pushP
  split
  · next q hq =>
    have ml := meas_last hq
    split
    · next z =>
      obtain ⟨a, b⟩ := hx q hq z.1 z.2
      have := measP_pow (u := u) a
      rw [meas_app, meas_one]
      omega
    · have := measP_pow (u := u) h0
      rw [meas_app, meas_one]
      omega
  · have := measP_pow (u := u) h0
    rw [meas_app, meas_one]
    omega
theorem measP_le {m : Nat} {q : Pn} (h : NormP m q) : q.1.length ≤ measP q := by
  unfold measP
  cases e : isPow q with
  | false =>
    rw [h.fix e]
    simp [one1]
    exact Nat.le_mul_of_pos_right _ (by omega)
  | true =>
    rw [if_pos (h.pow e).2]
    exact Nat.le_mul_of_pos_right _ (by omega)
theorem meas_pushN {m : Nat} {acc : List Pn} (h : Nm m acc) {u : W} {f : F} (hl : f.length = m + 1) (h0 : f.headD 0 = 0) : meas (pushP acc u f) ≤ meas acc + u.length :=
  meas_pushP h0 fun q hq pq e => by
    have nq := h.all q (List.mem_of_getLast? hq)
    refine ⟨head_add (by rw [nq.len, hl]) (of_decide_eq_true pq) h0, ?_⟩
    rw [← e]
    exact measP_le nq
theorem fix_pushP {m : Nat} {acc : List Pn} (h : Nm m acc) {u : W} {f : F} (hl : f.length = m + 1) (h0 : f.headD 0 = 0) : FixOk m (pushP acc u f) := by
  intro p hp z
  unfold pushP at hp
  have pr : isPow (u, f) = true := decide_eq_true h0
  split at hp
  · next r hr =>
    split at hp
    · next y =>
      rcases List.mem_append.mp hp with x | x
      · exact h.fixOk p (mem_dropLast x) z
      · rw [List.mem_singleton.mp x] at z
        have : isPow (u, addF r.2 f) = true := decide_eq_true (head_add (by rw [h.lenF r (List.mem_of_getLast? hr), hl]) (of_decide_eq_true y.1) h0)
        rw [this] at z
        cases z
    · rcases List.mem_append.mp hp with x | x
      · exact h.fixOk p x z
      · rw [List.mem_singleton.mp x, pr] at z
        cases z
  · rcases List.mem_append.mp hp with x | x
    · exact h.fixOk p x z
    · rw [List.mem_singleton.mp x, pr] at z
      cases z
theorem meas_putP {m : Nat} {acc : List Pn} (h : Nm m acc) {u : W} {f : F} (hl : f.length = m + 1) (h0 : f.headD 0 = 0) : meas (putP acc u f) ≤ meas acc + u.length := by
  have em : f.length - 1 = m := by omega
  have one : ∀ {acc : List Pn}, Nm m acc → meas (joinF (pushP acc u f) [] m) ≤ meas acc + u.length := fun {acc} h => by
    rw [meas_joinF (fix_pushP h hl h0)]
    exact meas_pushN h hl h0
  unfold putP
  rw [em]
  split
  · next q hq =>
    split
    · exact one h
    · next pq =>
      have pq' : isPow q = false := by simpa using pq
      have mq := h.all q (List.mem_of_getLast? hq)
      have e : measP q = q.1.length := by
        have : q = fixP q.1 m := by unfold fixP; rw [← mq.fix pq']
        conv => lhs; rw [this]
        rw [measP_fix]
      have ml := meas_last hq
      have n1 := nm_joinF h.init (q.1.take (q.1.length - movedE q.1 u)) (m := m)
      rw [meas_joinF (fix_pushP n1 hl h0)]
      have a := meas_pushN n1 (u := rotR u (movedE q.1 u)) hl h0
      rw [meas_joinF h.init.fixOk, List.length_take, rotR_len] at a
      rw [List.length_drop]
      have := movedE_le q.1 u
      omega
  · exact one h
theorem meas_stepN {m : Nat} {acc : List Pn} (h : Nm m acc) {p : Pn} (hl : p.2.length = m + 1) : meas (stepN acc p) ≤ meas acc + measP p := by
  have hA := nm_stepA h hl
  have a : meas (stepA acc p) ≤ meas acc + p.1.length * (if isOpen p.2 then 1 else 0) := by
    unfold stepA
    split
    · next z =>
      have lt : (timesF (p.1.length / rootN p.1) (0 :: p.2.tail)).length = m + 1 := by unfold timesF; simp [hl]
      have := meas_putP h (u := p.1.take (rootN p.1)) lt (by simp [timesF])
      rw [if_pos z.2]
      rw [List.length_take] at this
      omega
    · omega
  have b : meas (stepB (stepA acc p) p) ≤ meas (stepA acc p) + p.1.length * p.2.headD 0 := by
    unfold stepB
    split
    · have e : p.2.length - 1 = m := by omega
      rw [e, meas_joinF hA.fixOk, pw_len]
      exact Nat.le_refl _
    · omega
  unfold stepN measP
  rw [Nat.mul_add]
  omega
theorem meas_fold {m : Nat} : ∀ (ps acc : List Pn), Nm m acc → LenF m ps → meas (ps.foldl stepN acc) ≤ meas acc + meas ps
  | [], acc, _, _ => by simp [meas]
  | p :: r, acc, h, hl => by
    have lp := hl p List.mem_cons_self
    have a := meas_stepN h lp
    have b := meas_fold r (stepN acc p) (nm_stepB (nm_stepA h lp) lp) fun q hq => hl q (List.mem_cons_of_mem _ hq)
    rw [List.foldl_cons]
    have : meas (p :: r) = measP p + meas r := by simp [meas]
    omega
theorem meas_normL {m : Nat} {ps : List Pn} (h : LenF m ps) : meas (normL ps) ≤ meas ps := by
  have := meas_fold ps [] (Nm.nil (m := m)) h
  unfold normL
  have e : meas [] = 0 := rfl
  omega
/-! ### a normal list stays -/
theorem joinF_app {m : Nat} {acc : List Pn} {w : W} (hw : w ≠ []) (h : ∀ q, acc.getLast? = some q → isPow q = true) : joinF acc w m = acc ++ [fixP w m] := by
  unfold joinF
  split
  · next q hq => rw [if_pos (h q hq), if_neg hw]
  · rw [if_neg hw]
theorem pushP_app {acc : List Pn} {u : W} {f : F} (h : ∀ q, acc.getLast? = some q → ¬ (isPow q = true ∧ q.1 = u)) : pushP acc u f = acc ++ [(u, f)] := by
  unfold pushP
  split
  · next q hq => rw [if_neg (h q hq)]
  · rfl
theorem prim_root {w : W} (h : Prim w) : rootN w = w.length := h.2 _ (rootN_pos h.1) (rootN_dvd w) (rootN_per w)
theorem times_one {f : F} (h : f.headD 0 = 0) (hl : 0 < f.length) : timesF 1 (0 :: f.tail) = f := by
  cases f with
  | nil => simp at hl
  | cons a f =>
    simp only [List.headD_cons] at h
    subst h
    simp [timesF]
theorem step_fix {m : Nat} {l : List Pn} {p : Pn} (h : Nm m l) (hp : NormP m p) (ha : ∀ q, l.getLast? = some q → Adj q p) : stepN l p = l ++ [p] := by
  cases e : isPow p with
  | false =>
    have f1 := hp.fix e
    have ep : fixP p.1 m = p := by unfold fixP; rw [← f1]
    have no : isOpen p.2 = false := by rw [f1, open_one]
    have h1 : p.2.headD 0 = 1 := by rw [f1]; rfl
    have eA : stepA l p = l := by
      unfold stepA
      rw [if_neg fun z => by rw [no] at z; exact Bool.false_ne_true z.2]
    unfold stepN
    rw [eA]
    unfold stepB
    rw [if_pos ⟨hp.ne, by rw [h1]; decide⟩, h1, pw_one, show p.2.length - 1 = m by rw [hp.len]; rfl, joinF_app hp.ne fun q hq => ?_, ep]
    cases y : isPow q with
    | true => rfl
    | false =>
      have := ((ha q hq).fix y).1
      rw [e] at this
      cases this
  | true =>
    obtain ⟨pr, op⟩ := hp.pow e
    have h0 : p.2.headD 0 = 0 := of_decide_eq_true e
    have n0 := List.length_pos_iff.mpr hp.ne
    have eA : stepA l p = putP l p.1 p.2 := by
      unfold stepA
      rw [if_pos ⟨hp.ne, op⟩, prim_root pr, List.take_length, Nat.div_self n0, times_one h0 (by rw [hp.len]; omega)]
    have eB : ∀ acc, stepB acc p = acc := fun acc => by
      unfold stepB
      rw [if_neg fun z => z.2 h0]
    have last : ∀ l : List Pn, (l ++ [p]).getLast? = some p := fun l => by simp
    unfold stepN
    rw [eB, eA]
    unfold putP
    rw [show p.2.length - 1 = m by rw [hp.len]; rfl]
    split
    · next q hq =>
      have a := ha q hq
      split
      · next pq =>
        rw [pushP_app fun q' hq' => by rw [hq] at hq'; cases hq'; exact fun z => a.pow pq e z.2]
        exact joinF_nil (last l) e
      · next pq =>
        have pq' : isPow q = false := by simpa using pq
        have mq := h.all q (List.mem_of_getLast? hq)
        have mz : movedE q.1 p.1 = 0 := moved_zero hp.ne mq.ne (a.fix pq').2
        have el : joinF l.dropLast q.1 m = l := by
          rw [joinF_app mq.ne fun r hr => ?_]
          · have : fixP q.1 m = q := by unfold fixP; rw [← mq.fix pq']
            rw [this]
            exact (last_split hq).symm
          · have b := h.pre hq hr
            cases y : isPow r with
            | true => rfl
            | false =>
              have := (b.fix y).1
              rw [pq'] at this
              cases this
        rw [mz, Nat.sub_zero, List.take_length, List.drop_length, rotR_zero, el, pushP_app fun q' hq' => by rw [hq] at hq'; cases hq'; exact fun z => pq z.1]
        exact joinF_nil (last l) e
    · next hn =>
      rw [pushP_app fun q' hq' => by rw [hn] at hq'; cases hq']
      exact joinF_nil (last l) e
theorem Nm.take {m : Nat} {l : List Pn} (h : Nm m l) (i : Nat) : Nm m (l.take i) := by
  refine ⟨fun p hp => h.all p (List.mem_of_mem_take hp), fun j p q hj hq => ?_⟩
  rw [List.getElem?_take] at hj hq
  split at hq
  · split at hj
    · exact h.adj j p q hj hq
    · cases hj
  · cases hq
theorem normL_take {m : Nat} {ps : List Pn} (h : Nm m ps) : ∀ i, i ≤ ps.length → normL (ps.take i) = ps.take i
  | 0, _ => by simp [normL]
  | i + 1, hi => by
    have hp := List.getElem?_eq_getElem (show i < ps.length by omega)
    generalize ps[i] = p at hp
    have e : ps.take (i + 1) = ps.take i ++ [p] := by rw [List.take_succ, hp]; rfl
    rw [e]
    unfold normL
    rw [List.foldl_append]
    have := normL_take h i (by omega)
    unfold normL at this
    rw [this]
    refine step_fix (h.take i) (h.all p (List.mem_of_getElem? hp)) fun q hq => ?_
    rw [List.getLast?_eq_getElem?, List.length_take, Nat.min_eq_left (by omega)] at hq
    rw [List.getElem?_take] at hq
    split at hq
    · refine h.adj (i - 1) q p hq ?_
      rw [show i - 1 + 1 = i by omega]
      exact hp
    · cases hq
/-- a normal list is its own -/
theorem normL_id {m : Nat} {ps : List Pn} (h : Nm m ps) : normL ps = ps := by
  have := normL_take h ps.length (Nat.le_refl _)
  rw [List.take_length] at this
  exact this
end NM

set_option linter.all false
set_option maxRecDepth 100000
namespace NM
open WM
/-! ### a word is no power exactly if it stands in itself doubled, without the first letter, at the end first -/
/-- w stands at the place k + 1 of w w -/
def Occ (w : W) (k : Nat) : Prop := ((w ++ w).drop (k + 1)).take w.length = w
theorem dbl_get {w : W} (h : w ≠ []) {i : Nat} (hi : i < 2 * w.length) : (w ++ w)[i]? = w[i % w.length]? := by
  have n0 := List.length_pos_iff.mpr h
  by_cases z : i < w.length
  · rw [List.getElem?_append_left z, Nat.mod_eq_of_lt z]
  · rw [List.getElem?_append_right (by omega), Nat.mod_eq_sub_mod (show i ≥ w.length by omega), Nat.mod_eq_of_lt (by omega)]
theorem occ_get {w : W} (h : w ≠ []) {k : Nat} (hk : k + 1 ≤ w.length) : Occ w k ↔ ∀ i, i < w.length → w[(k + 1 + i) % w.length]? = w[i]? := by
  unfold Occ
  constructor
  · intro e i hi
    have : (((w ++ w).drop (k + 1)).take w.length)[i]? = w[i]? := by rw [e]
    rw [List.getElem?_take_of_lt hi, List.getElem?_drop, dbl_get h (by omega)] at this
    exact this
  · intro e
    refine List.ext_getElem? fun i => ?_
    by_cases hi : i < w.length
    · rw [List.getElem?_take_of_lt hi, List.getElem?_drop, dbl_get h (by omega)]
      exact e i hi
    · rw [List.getElem?_eq_none (by rw [List.length_take]; omega), List.getElem?_eq_none (by omega)]
theorem occ_last {w : W} (h : w ≠ []) : Occ w (w.length - 1) := by
  have n0 := List.length_pos_iff.mpr h
  refine (occ_get h (by omega)).mpr fun i hi => ?_
  rw [show w.length - 1 + 1 + i = i + w.length by omega, Nat.add_mod_right, Nat.mod_eq_of_lt hi]
/-- an earlier place makes a shorter period -/
theorem occ_not_prim {w : W} (h : w ≠ []) {k : Nat} (hk : k + 1 < w.length) (o : Occ w k) : ¬ Prim w := by
  intro pr
  have n0 := List.length_pos_iff.mpr h
  have e := (occ_get h (by omega)).mp o
  -- the word doubled has the periods k + 1 and its half
  have dl : (w ++ w).length = 2 * w.length := by rw [List.length_append]; omega
  have p1 : Per (k + 1) (w ++ w) := fun i hi => by
    rw [dl] at hi
    rw [dbl_get h (by omega), dbl_get h hi]
    have := e (i % w.length) (Nat.mod_lt _ n0)
    rw [← this]
    congr 1
    rw [Nat.add_mod_mod, Nat.add_comm]
  have p2 : Per w.length (w ++ w) := fun i hi => by
    rw [dl] at hi
    rw [dbl_get h (by omega), dbl_get h hi, Nat.add_mod_right]
  have g := per_gcd p1 p2 (by rw [dl]; omega)
  have gp : 0 < Nat.gcd (k + 1) w.length := Nat.gcd_pos_of_pos_left _ (by omega)
  have gd : Nat.gcd (k + 1) w.length ∣ w.length := Nat.gcd_dvd_right _ _
  have gl : Nat.gcd (k + 1) w.length ≤ k + 1 := Nat.le_of_dvd (by omega) (Nat.gcd_dvd_left _ _)
  have pw' : Per (Nat.gcd (k + 1) w.length) w := by
    have := per_take (k := w.length) g
    rw [List.take_left] at this
    exact this
  have := pr.2 _ gp gd pw'
  omega
theorem not_prim_occ {w : W} (h : w ≠ []) (np : ¬ Prim w) : ∃ k, k + 1 < w.length ∧ Occ w k := by
  have n0 := List.length_pos_iff.mpr h
  have : ∃ d, 0 < d ∧ d ∣ w.length ∧ Per d w ∧ d ≠ w.length := Classical.byContradiction fun z => np ⟨h, fun d h1 h2 h3 => Classical.byContradiction fun y => z ⟨d, h1, h2, h3, y⟩⟩
  obtain ⟨d, h1, h2, h3, h4⟩ := this
  have dl := Nat.le_of_dvd n0 h2
  refine ⟨d - 1, by omega, (occ_get h (by omega)).mpr fun i hi => ?_⟩
  rw [show d - 1 + 1 + i = i + d by omega, per_at h1 h3 (Nat.mod_lt _ n0), per_at h1 h3 hi, Nat.mod_mod_of_dvd _ h2, Nat.add_mod_right]
/-! ### the law's rules -/
theorem isPow_one {p : Pn} {m : Nat} (h : p.2 = one1 m) : isPow p = false := by
  unfold isPow
  rw [h]
  rfl
theorem sum_zero : ∀ {l : List Nat}, l.sum = 0 ↔ ∀ x ∈ l, x = 0
  | [] => by simp
  | a :: l => by
    rw [List.sum_cons]
    constructor
    · intro h x hx
      rcases List.mem_cons.mp hx with z | z
      · omega
      · exact sum_zero.mp (show l.sum = 0 by omega) x z
    · intro h
      have a0 := h a List.mem_cons_self
      have := sum_zero.mpr fun x hx => h x (List.mem_cons_of_mem _ hx)
      omega
/-- what the law asks of a piece -/
def okP (m : Nat) (p : Pn) : Prop := (Prim p.1 ∨ p.2 = one1 m) ∧ p.1 ≠ [] ∧ (p.2 = one1 m ∨ (p.2.headD 0 = 0 ∧ p.2.sum ≠ 0))
theorem okP_iff {m : Nat} {p : Pn} (hl : p.2.length = m + 1) : okP m p ↔ NormP m p := by
  constructor
  · rintro ⟨h1, h2, h3⟩
    refine ⟨h2, hl, fun z => ?_, fun z => ?_⟩
    · rcases h3 with y | y
      · exact y
      · have : isPow p = true := decide_eq_true y.1
        rw [this] at z
        cases z
    · rcases h3 with y | y
      · rw [isPow_one y] at z
        cases z
      · have ne1 : p.2 ≠ one1 m := fun x => by rw [isPow_one x] at z; cases z
        refine ⟨h1.resolve_right ne1, ?_⟩
        cases e : isOpen p.2 with
        | true => rfl
        | false =>
          exfalso
          apply y.2
          refine sum_zero.mpr fun x hx => ?_
          cases ep : p.2 with
          | nil => rw [ep] at hx; cases hx
          | cons a f =>
            rw [ep] at hx
            rcases List.mem_cons.mp hx with w | w
            · have := y.1
              rw [ep] at this
              rw [w]
              exact this
            · refine Classical.byContradiction fun x0 => ?_
              have : isOpen p.2 = true := isOpen_iff.mpr ⟨x, by rw [ep]; exact w, x0⟩
              rw [e] at this
              cases this
  · intro h
    cases e : isPow p with
    | false => exact ⟨.inr (h.fix e), h.ne, .inl (h.fix e)⟩
    | true =>
      obtain ⟨a, b⟩ := h.pow e
      refine ⟨.inl a, h.ne, .inr ⟨of_decide_eq_true e, fun z => ?_⟩⟩
      obtain ⟨x, hx, x0⟩ := isOpen_iff.mp b
      exact x0 (sum_zero.mp z x (List.mem_of_mem_tail hx))
/-- what the law asks of two neighbours -/
def okA (m : Nat) (p q : Pn) : Prop := ¬ (p.2 = one1 m ∧ q.2 = one1 m) ∧ ¬ (p.2 ≠ one1 m ∧ q.2 ≠ one1 m ∧ p.1 = q.1) ∧ ¬ (p.2 = one1 m ∧ p.1.getLast? = q.1.getLast?)
theorem fix_iff {m : Nat} {p : Pn} (h : NormP m p) : isPow p = false ↔ p.2 = one1 m := ⟨h.fix, isPow_one⟩
theorem okA_iff {m : Nat} {p q : Pn} (hp : NormP m p) (hq : NormP m q) : okA m p q ↔ Adj p q := by
  have fp := fix_iff hp
  have fq := fix_iff hq
  constructor
  · rintro ⟨h1, h2, h3⟩
    refine ⟨fun z => ⟨?_, fun y => h3 ⟨fp.mp z, y⟩⟩, fun z y x => ?_⟩
    · cases e : isPow q with
      | true => rfl
      | false => exact absurd ⟨fp.mp z, fq.mp e⟩ h1
    · refine h2 ⟨fun w => ?_, fun w => ?_, x⟩
      · rw [fp.mpr w] at z
        cases z
      · rw [fq.mpr w] at y
        cases y
  · intro h
    refine ⟨fun z => ?_, fun z => ?_, fun z => (h.fix (fp.mpr z.1)).2 z.2⟩
    · have := (h.fix (fp.mpr z.1)).1
      rw [fq.mpr z.2] at this
      cases this
    · have e1 : isPow p = true := by
        cases e : isPow p with
        | true => rfl
        | false => exact absurd (fp.mp e) z.1
      have e2 : isPow q = true := by
        cases e : isPow q with
        | true => rfl
        | false => exact absurd (fq.mp e) z.2.1
      exact h.pow e1 e2 z.2.2
theorem nm_iff {m : Nat} {ps : List Pn} (hl : LenF m ps) : Nm m ps ↔ (∀ p ∈ ps, okP m p) ∧ ∀ (i : Nat) (p q : Pn), ps[i]? = some p → ps[i + 1]? = some q → okA m p q := by
  constructor
  · intro h
    exact ⟨fun p hp => (okP_iff (hl p hp)).mpr (h.all p hp), fun i p q hi hj => (okA_iff (h.all p (List.mem_of_getElem? hi)) (h.all q (List.mem_of_getElem? hj))).mpr (h.adj i p q hi hj)⟩
  · rintro ⟨h1, h2⟩
    have all : ∀ p ∈ ps, NormP m p := fun p hp => (okP_iff (hl p hp)).mp (h1 p hp)
    exact ⟨all, fun i p q hi hj => (okA_iff (all p (List.mem_of_getElem? hi)) (all q (List.mem_of_getElem? hj))).mp (h2 i p q hi hj)⟩
theorem normL_iff {m : Nat} {ps : List Pn} (hl : LenF m ps) : normL ps = ps ↔ Nm m ps := ⟨fun e => by rw [← e]; exact nm_normL hl, normL_id⟩
theorem wr_flat (pt : List Nat) : ∀ ps : List Pn, ((ps.filter fun p => decide (p.1 ≠ [])).map (wrt pt)).flatten = wr pt ps
  | [] => rfl
  | p :: r => by
    by_cases h : p.1 = []
    · rw [List.filter_cons_of_neg (by simp [h]), wr_flat pt r, wr]
      unfold wrt
      rw [h, pw_nil, List.nil_append]
    · rw [List.filter_cons_of_pos (by simp [h]), List.map_cons, List.flatten_cons, wr_flat pt r, wr]
theorem wrt_le {pt : List Nat} : ∀ {ps : List Pn} {p : Pn}, p ∈ ps → (wrt pt p).length ≤ (wr pt ps).length
  | q :: r, p, h => by
    rw [wr, List.length_append]
    rcases List.mem_cons.mp h with z | z
    · rw [z]
      omega
    · have := wrt_le (pt := pt) z
      omega
end NM

set_option linter.all false
set_option maxRecDepth 100000
namespace NM
open WM
/-! ### how long what is written can be -/
theorem le_sumN : ∀ {f : List Nat} {x : Nat}, x ∈ f → x ≤ f.sum
  | a :: l, x, h => by
    rw [List.sum_cons]
    rcases List.mem_cons.mp h with z | z
    · omega
    · have := le_sumN z
      omega
theorem dot_ones : ∀ (f : List Nat), dot f (List.replicate f.length 1) = f.sum
  | [] => rfl
  | a :: l => by
    rw [List.length_cons, List.replicate_succ, dot, dot_ones l, List.sum_cons]
    omega
theorem mem_val {f : F} {m x : Nat} (hl : f.length = m + 1) (hx : x ∈ f) : x ≤ valF f (List.replicate m 1) := by
  cases f with
  | nil => cases hx
  | cons a l =>
    have e : l.length = m := by simpa using hl
    unfold valF
    rw [List.tail_cons, ← e, dot_ones]
    show x ≤ a + l.sum
    rcases List.mem_cons.mp hx with z | z
    · omega
    · have := le_sumN z
      omega
theorem dot_le {B c : Nat} : ∀ (f pt : List Nat), (∀ x ∈ f, x ≤ B) → (∀ x ∈ pt, x ≤ c) → dot f pt ≤ f.length * (B * c)
  | [], _, _, _ => by simp [dot]
  | _ :: _, [], _, _ => by simp [dot]
  | x :: xs, y :: ys, h, g => by
    have a := dot_le xs ys (fun z hz => h z (List.mem_cons_of_mem _ hz)) (fun z hz => g z (List.mem_cons_of_mem _ hz))
    have b : x * y ≤ B * c := Nat.mul_le_mul (h x List.mem_cons_self) (g y List.mem_cons_self)
    rw [dot, List.length_cons, Nat.succ_mul]
    omega
theorem wr_le {pt : List Nat} {k : Nat} : ∀ ps : List Pn, (∀ p ∈ ps, (wrt pt p).length ≤ k) → (wr pt ps).length ≤ ps.length * k
  | [], _ => by simp [wr]
  | p :: r, h => by
    have a := wr_le r fun q hq => h q (List.mem_cons_of_mem _ hq)
    have b := h p List.mem_cons_self
    rw [wr, List.length_append, List.length_cons, Nat.succ_mul]
    omega
theorem val_le3 {f : F} {pt : List Nat} {m : Nat} (hl : f.length = m + 1) (hm : m ≤ 3) (hf : ∀ x ∈ f, x ≤ 3) (hp : ∀ x ∈ pt, x ≤ 3) : valF f pt ≤ 30 := by
  cases f with
  | nil => simp at hl
  | cons a l =>
    have e : l.length = m := by simpa using hl
    have d := dot_le (B := 3) (c := 3) l pt (fun x hx => hf x (List.mem_cons_of_mem _ hx)) hp
    have h0 := hf a List.mem_cons_self
    have : l.length * (3 * 3) ≤ 3 * 9 := Nat.mul_le_mul (by omega) (by decide)
    unfold valF
    show a + dot l pt ≤ 30
    omega
theorem wrt_le3 {p : Pn} {pt : List Nat} {m : Nat} (hl : p.2.length = m + 1) (hm : m ≤ 3) (hw : p.1.length ≤ 12) (hf : ∀ x ∈ p.2, x ≤ 3) (hp : ∀ x ∈ pt, x ≤ 3) : (wrt pt p).length ≤ 360 := by
  have v := val_le3 hl hm hf hp
  have e : (wrt pt p).length = p.1.length * valF p.2 pt := pw_len _ _
  rw [e]
  exact Nat.mul_le_mul hw v
theorem meas_le {k : Nat} : ∀ ps : List Pn, (∀ p ∈ ps, measP p ≤ k) → meas ps ≤ ps.length * k
  | [], _ => by simp [meas]
  | p :: r, h => by
    have a := meas_le r fun q hq => h q (List.mem_cons_of_mem _ hq)
    have b := h p List.mem_cons_self
    have e : meas (p :: r) = measP p + meas r := by simp [meas]
    rw [e, List.length_cons, Nat.succ_mul]
    omega
theorem measP_le48 {p : Pn} {m : Nat} (hl : p.2.length = m + 1) (hw : p.1.length ≤ 12) (hf : ∀ x ∈ p.2, x ≤ 3) : measP p ≤ 48 := by
  have h0 : p.2.headD 0 ≤ 3 := by
    cases e : p.2 with
    | nil => rw [e] at hl; simp at hl
    | cons a l => exact hf a (by rw [e]; exact List.mem_cons_self)
  unfold measP
  have : p.2.headD 0 + (if isOpen p.2 = true then 1 else 0) ≤ 4 := by split <;> omega
  exact Nat.mul_le_mul hw this
/-- the numbers of a normal list are no greater than what it writes at ones -/
theorem num_le {m k : Nat} {ps : List Pn} (h : LenF m ps) (hk : (wr (List.replicate m 1) ps).length ≤ k) {p : Pn} (hp : p ∈ normL ps) {x : Nat} (hx : x ∈ p.2) : x ≤ k := by
  have nm := nm_normL h
  have np := nm.all p hp
  have n0 := List.length_pos_iff.mpr np.ne
  have a := mem_val np.len hx
  have b := wrt_le (pt := List.replicate m 1) hp
  rw [wr_normL h] at b
  have e : (wrt (List.replicate m 1) p).length = p.1.length * valF p.2 (List.replicate m 1) := pw_len _ _
  have c : valF p.2 (List.replicate m 1) ≤ p.1.length * valF p.2 (List.replicate m 1) := Nat.le_mul_of_pos_left _ n0
  omega
/-! ### lists that are spoilt -/
theorem nm_mem {m : Nat} {ps : List Pn} {p : Pn} (hp : p ∈ ps) (h : ¬ NormP m p) : ¬ Nm m ps := fun z => h (z.all p hp)
theorem norm_empty {m : Nat} {f : F} : ¬ NormP m ([], f) := fun z => z.ne rfl
theorem norm_zeros {m : Nat} {w : W} : ¬ NormP m (w, 0 :: List.replicate m 0) := fun z => by
  have a := (z.pow rfl).2
  obtain ⟨x, hx, h⟩ := isOpen_iff.mp a
  exact h (List.eq_of_mem_replicate hx)
/-! ### a fixed piece, a letter's power, a fixed piece -/
theorem prim_one (c : Nat) : Prim [c] := ⟨by simp, fun d h1 h2 _ => by
  have := Nat.le_of_dvd (by simp) h2
  simp at this ⊢
  omega⟩
def longP (m a b c i j : Nat) : List Pn := [(List.replicate i a, one1 m), ([b], 0 :: 1 :: List.replicate (m - 1) 0), (List.replicate j c, one1 m)]
theorem nm_long {m a b c i j : Nat} (hm : 1 ≤ m) (hab : a ≠ b) (hi : 0 < i) (hj : 0 < j) : Nm m (longP m a b c i j) := by
  have l2 : (0 :: 1 :: List.replicate (m - 1) 0).length = m + 1 := by simp; omega
  refine ⟨fun p hp => ?_, fun k p q hk hk' => ?_⟩
  · rcases List.mem_cons.mp hp with z | z
    · rw [z]
      exact fixP_norm (fun y => by have := congrArg List.length y; simp at this; omega)
    rcases List.mem_cons.mp z with z | z
    · rw [z]
      exact (pow_norm (prim_one b) l2 rfl rfl).1
    · rw [List.mem_singleton.mp z]
      exact fixP_norm (fun y => by have := congrArg List.length y; simp at this; omega)
  · match k, hk, hk' with
    | 0, hk, hk' =>
      cases hk
      cases hk'
      refine ⟨fun _ => ⟨rfl, fun y => hab ?_⟩, fun z => by cases z⟩
      have e1 : (List.replicate i a).getLast? = some a := by
        rw [List.getLast?_eq_getElem?, List.length_replicate, List.getElem?_replicate, if_pos (by omega)]
      have y' : (List.replicate i a).getLast? = [b].getLast? := y
      rw [e1] at y'
      simpa using y'
    | 1, hk, hk' =>
      cases hk
      cases hk'
      exact ⟨fun z => (by cases z), fun _ z => (by cases z)⟩
    | 2, hk, hk' => simp [longP] at hk'
    | (k + 3), hk, hk' => simp [longP] at hk
theorem meas_long {m a b c i j : Nat} (hm : 1 ≤ m) : meas (longP m a b c i j) = i + 1 + j := by
  have h1 : ∀ (w : W), measP (w, one1 m) = w.length := fun w => measP_fix w m
  have h2 : measP ([b], 0 :: 1 :: List.replicate (m - 1) 0) = 1 := rfl
  unfold longP meas
  simp [h1, h2]
  omega
end NM

set_option linter.all false
set_option maxRecDepth 100000
/-! two normal lists that write the same word at enough points are the same -/
namespace NM
open WM
theorem gcd_last {a b : Nat} (ha : 0 < a) (hb : 0 < b) : (a - 1) % Nat.gcd a b = (b - 1) % Nat.gcd a b := by
  have g0 : 0 < Nat.gcd a b := Nat.gcd_pos_of_pos_left _ ha
  have key : ∀ c, 0 < c → Nat.gcd a b ∣ c → (c - 1) % Nat.gcd a b = Nat.gcd a b - 1 := fun c hc hd => by
    obtain ⟨k, rfl⟩ := hd
    cases k with
    | zero => simp at hc
    | succ k =>
      rw [Nat.mul_succ, show Nat.gcd a b * k + Nat.gcd a b - 1 = Nat.gcd a b * k + (Nat.gcd a b - 1) by omega, Nat.mul_add_mod, Nat.mod_eq_of_lt (by omega)]
  rw [key a ha (Nat.gcd_dvd_left _ _), key b hb (Nat.gcd_dvd_right _ _)]
theorem app_get {α : Type} {A B : List α} {i : Nat} (h : i < A.length) : (A ++ B)[i]? = A[i]? := List.getElem?_append_left h
/-- letters ahead of a power that go on with another power could have been moved -/
theorem turn_last {u v x A B : W} {i j : Nat} (hu : u ≠ []) (hv : v ≠ []) (hx : x ≠ []) (h : pw u i ++ A = x ++ (pw v j ++ B)) (hi : x.length + u.length + v.length ≤ u.length * i) (hj : u.length + v.length ≤ v.length * j) : x.getLast? = v.getLast? := by
  have u0 := List.length_pos_iff.mpr hu
  have v0 := List.length_pos_iff.mpr hv
  have x0 := List.length_pos_iff.mpr hx
  have lu : (pw u i).length = u.length * i := pw_len _ _
  have lv : (pw v j).length = v.length * j := pw_len _ _
  have left : ∀ k, k < x.length + u.length + v.length → (x ++ (pw v j ++ B))[k]? = u[k % u.length]? := fun k hk => by
    rw [← h, app_get (by omega), pw_get hu i k (by omega)]
  have right : ∀ k, k < u.length + v.length → (x ++ (pw v j ++ B))[x.length + k]? = (pw v j)[k]? := fun k hk => by
    rw [List.getElem?_append_right (by omega), show x.length + k - x.length = k by omega, app_get (by omega)]
  have lz : ((pw v j).take (u.length + v.length)).length = u.length + v.length := by rw [List.length_take]; omega
  have zget : ∀ k, k < u.length + v.length → ((pw v j).take (u.length + v.length))[k]? = (pw v j)[k]? := fun k hk => List.getElem?_take_of_lt hk
  have p1 : Per v.length ((pw v j).take (u.length + v.length)) := per_take (pw_per hv j)
  have p2 : Per u.length ((pw v j).take (u.length + v.length)) := fun k hk => by
    rw [lz] at hk
    rw [zget k (by omega), zget (k + u.length) hk, ← right k (by omega), ← right (k + u.length) hk, left _ (by omega), left _ (by omega)]
    congr 1
    rw [← Nat.add_assoc, Nat.add_mod_right]
  have pd := per_gcd p2 p1 (by rw [lz]; exact Nat.le_refl _)
  have d0 : 0 < Nat.gcd u.length v.length := Nat.gcd_pos_of_pos_left _ u0
  have a1 := per_at d0 pd (i := u.length - 1) (by rw [lz]; omega)
  have a2 := per_at d0 pd (i := v.length - 1) (by rw [lz]; omega)
  rw [gcd_last u0 v0, ← a2] at a1
  have e1 : x.getLast? = (x ++ (pw v j ++ B))[x.length - 1]? := by
    rw [List.getLast?_eq_getElem?, app_get (by omega)]
  have e2 : (x ++ (pw v j ++ B))[x.length - 1]? = (x ++ (pw v j ++ B))[x.length + (u.length - 1)]? := by
    rw [left _ (by omega), left _ (by omega)]
    congr 1
    rw [show x.length + (u.length - 1) = x.length - 1 + u.length by omega, Nat.add_mod_right]
  have e3 : (pw v j)[v.length - 1]? = v.getLast? := by
    rw [pw_get hv j _ (by omega), Nat.mod_eq_of_lt (by omega), List.getLast?_eq_getElem?]
  rw [e1, e2, right _ (by omega), ← zget _ (by omega), a1, zget _ (by omega), e3]
/-- two powers of primitive words that begin alike are of one word -/
theorem pow_same {u v A B : W} {i j : Nat} (hu : Prim u) (hv : Prim v) (h : pw u i ++ A = pw v j ++ B) (hi : u.length + v.length ≤ u.length * i) (hj : u.length + v.length ≤ v.length * j) : u = v := by
  have u0 := List.length_pos_iff.mpr hu.1
  have v0 := List.length_pos_iff.mpr hv.1
  have lu : (pw u i).length = u.length * i := pw_len _ _
  have lv : (pw v j).length = v.length * j := pw_len _ _
  have ez : (pw u i).take (u.length + v.length) = (pw v j).take (u.length + v.length) := by
    have : (pw u i ++ A).take (u.length + v.length) = (pw v j ++ B).take (u.length + v.length) := by rw [h]
    rw [List.take_append_of_le_length (by omega), List.take_append_of_le_length (by omega)] at this
    exact this
  have lz : ((pw u i).take (u.length + v.length)).length = u.length + v.length := by rw [List.length_take]; omega
  have p1 : Per u.length ((pw u i).take (u.length + v.length)) := per_take (pw_per hu.1 i)
  have p2 : Per v.length ((pw u i).take (u.length + v.length)) := by rw [ez]; exact per_take (pw_per hv.1 j)
  have pd := per_gcd p1 p2 (by rw [lz]; exact Nat.le_refl _)
  have tu : ((pw u i).take (u.length + v.length)).take u.length = u := by
    rw [List.take_take, Nat.min_eq_left (by omega)]
    refine List.ext_getElem? fun k => ?_
    by_cases hk : k < u.length
    · rw [List.getElem?_take_of_lt hk, pw_get hu.1 i k (by omega), Nat.mod_eq_of_lt hk]
    · rw [List.getElem?_eq_none (by rw [List.length_take]; omega), List.getElem?_eq_none (by omega)]
  have tv : ((pw u i).take (u.length + v.length)).take v.length = v := by
    rw [ez, List.take_take, Nat.min_eq_left (by omega)]
    refine List.ext_getElem? fun k => ?_
    by_cases hk : k < v.length
    · rw [List.getElem?_take_of_lt hk, pw_get hv.1 j k (by omega), Nat.mod_eq_of_lt hk]
    · rw [List.getElem?_eq_none (by rw [List.length_take]; omega), List.getElem?_eq_none (by omega)]
  have d0 : 0 < Nat.gcd u.length v.length := Nat.gcd_pos_of_pos_left _ u0
  have pu : Per (Nat.gcd u.length v.length) u := by
    have := per_take (k := u.length) pd
    rw [tu] at this
    exact this
  have pv : Per (Nat.gcd u.length v.length) v := by
    have := per_take (k := v.length) pd
    rw [tv] at this
    exact this
  have du := hu.2 _ d0 (Nat.gcd_dvd_left _ _) pu
  have dv := hv.2 _ d0 (Nat.gcd_dvd_right _ _) pv
  have el : u.length = v.length := du.symm.trans dv
  exact (tu.symm.trans (congrArg (fun n => ((pw u i).take (u.length + v.length)).take n) el)).trans tv
/-- a point of numbers of at least N -/
def Far (m N : Nat) (pt : List Nat) : Prop := pt.length = m ∧ ∀ x ∈ pt, N ≤ x
theorem dot_far {N : Nat} : ∀ (f pt : List Nat), f.length = pt.length → (∃ x ∈ f, x ≠ 0) → (∀ x ∈ pt, N ≤ x) → N ≤ dot f pt
  | [], _, _, h, _ => by obtain ⟨x, hx, _⟩ := h; cases hx
  | _ :: _, [], hl, _, _ => by simp at hl
  | a :: f, b :: pt, hl, h, hp => by
    rw [dot]
    by_cases z : a = 0
    · have : ∃ x ∈ f, x ≠ 0 := by
        obtain ⟨x, hx, x0⟩ := h
        rcases List.mem_cons.mp hx with y | y
        · exact absurd (y.trans z) x0
        · exact ⟨x, y, x0⟩
      have := dot_far f pt (by simpa using hl) this fun x hx => hp x (List.mem_cons_of_mem _ hx)
      omega
    · have := hp b List.mem_cons_self
      have : b ≤ a * b := Nat.le_mul_of_pos_left _ (by omega)
      omega
theorem val_far {m N : Nat} {f : F} {pt : List Nat} (hl : f.length = m + 1) (ho : isOpen f = true) (hp : Far m N pt) : N ≤ valF f pt := by
  have := dot_far f.tail pt (by rw [List.length_tail, hl, hp.1]; rfl) (isOpen_iff.mp ho) hp.2
  unfold valF
  omega
def tot (ps : List Pn) : Nat := (ps.map fun p => p.1.length).sum
theorem tot_cons (p : Pn) (r : List Pn) : tot (p :: r) = p.1.length + tot r := by simp [tot]
theorem Nm.tail {m : Nat} {p : Pn} {r : List Pn} (h : Nm m (p :: r)) : Nm m r := ⟨fun q hq => h.all q (List.mem_cons_of_mem _ hq), fun i a b ha hb => h.adj (i + 1) a b ha hb⟩
theorem Nm.head {m : Nat} {p : Pn} {r : List Pn} (h : Nm m (p :: r)) : NormP m p := h.all p List.mem_cons_self
theorem Nm.adj0 {m : Nat} {p q : Pn} {r : List Pn} (h : Nm m (p :: q :: r)) : Adj p q := h.adj 0 p q rfl rfl
/-- what does not begin with u does not begin with a great power of u -/
theorem no_begin {m N k : Nat} {u R : W} {pt : List Nat} (hu : Prim u) : ∀ {r : List Pn}, Nm m r → (∀ q, r.head? = some q → isPow q = true → q.1 ≠ u) → Far m N pt → u.length + tot r + 1 ≤ N → N ≤ k → wr pt r = pw u k ++ R → False
  | [], _, _, _, _, hk, e => by
    have u0 := List.length_pos_iff.mpr hu.1
    have := congrArg List.length e
    rw [List.length_append, pw_len, wr] at this
    have : k ≤ u.length * k := Nat.le_mul_of_pos_left _ u0
    simp at *
    omega
  | q :: t, nm, hq, far, hN, hk, e => by
    have u0 := List.length_pos_iff.mpr hu.1
    have uk : k ≤ u.length * k := Nat.le_mul_of_pos_left _ u0
    have nq := nm.head
    have q0 := List.length_pos_iff.mpr nq.ne
    rw [tot_cons] at hN
    rw [wr] at e
    cases ep : isPow q with
    | true =>
      obtain ⟨pr, op⟩ := nq.pow ep
      have v := val_far nq.len op far
      have qv : valF q.2 pt ≤ q.1.length * valF q.2 pt := Nat.le_mul_of_pos_left _ q0
      exact hq q rfl ep (pow_same pr hu e (by omega) (by omega))
    | false =>
      have ef : wrt pt q = q.1 := by
        have := nq.fix ep
        unfold wrt
        rw [this, val_one, pw_one]
      rw [ef] at e
      match t, nm, e, hN with
      | [], nm, e, hN =>
        have := congrArg List.length e
        rw [wr, List.append_nil, List.length_append, pw_len] at this
        omega
      | q2 :: t2, nm, e, hN =>
        have ad := nm.adj0.fix ep
        have n2 := nm.tail.head
        obtain ⟨_, op⟩ := n2.pow ad.1
        have v := val_far n2.len op far
        have q20 := List.length_pos_iff.mpr n2.ne
        have qv : valF q2.2 pt ≤ q2.1.length * valF q2.2 pt := Nat.le_mul_of_pos_left _ q20
        rw [tot_cons] at hN
        rw [wr] at e
        have e' : pw u k ++ R = q.1 ++ (pw q2.1 (valF q2.2 pt) ++ wr pt t2) := e.symm
        exact ad.2 (turn_last hu.1 n2.ne nq.ne e' (by omega) (by omega))
/-- points that tell forms apart, with great numbers -/
structure Rich (m : Nat) (Sp : List Nat → Prop) : Prop where
  far : ∀ N, ∃ pt, Sp pt ∧ Far m N pt
  part : ∀ (N : Nat) (f g : F), f.length = m + 1 → g.length = m + 1 → f.headD 0 = 0 → g.headD 0 = 0 → f ≠ g → ∃ pt, Sp pt ∧ Far m N pt ∧ (valF f pt + N ≤ valF g pt ∨ valF g pt + N ≤ valF f pt)
theorem uni {m : Nat} {Sp : List Nat → Prop} (hS : Rich m Sp) : ∀ {a b : List Pn}, Nm m a → Nm m b → (∀ pt, Sp pt → wr pt a = wr pt b) → a = b
  | [], [], _, _, _ => rfl
  | [], q :: t, _, nb, e => by
    exfalso
    obtain ⟨pt, sp, far⟩ := hS.far 1
    have := congrArg List.length (e pt sp)
    have nq := nb.head
    have q0 := List.length_pos_iff.mpr nq.ne
    have v : 1 ≤ valF q.2 pt := by
      cases ep : isPow q with
      | true => exact val_far nq.len (nq.pow ep).2 far
      | false => rw [nq.fix ep, val_one]; exact Nat.le_refl _
    have lw : (wrt pt q).length = q.1.length * valF q.2 pt := pw_len _ _
    have : 0 < q.1.length * valF q.2 pt := Nat.mul_pos q0 v
    have h := e pt sp
    rw [wr, wr] at h
    have h2 := congrArg List.length h
    rw [List.length_append] at h2
    simp only [List.length_nil] at h2
    omega
  | p :: r, [], na, _, e => by
    exfalso
    obtain ⟨pt, sp, far⟩ := hS.far 1
    have := congrArg List.length (e pt sp)
    have nq := na.head
    have q0 := List.length_pos_iff.mpr nq.ne
    have v : 1 ≤ valF p.2 pt := by
      cases ep : isPow p with
      | true => exact val_far nq.len (nq.pow ep).2 far
      | false => rw [nq.fix ep, val_one]; exact Nat.le_refl _
    have lw : (wrt pt p).length = p.1.length * valF p.2 pt := pw_len _ _
    have : 0 < p.1.length * valF p.2 pt := Nat.mul_pos q0 v
    have h := e pt sp
    rw [wr, wr] at h
    have h2 := congrArg List.length h
    rw [List.length_append] at h2
    simp only [List.length_nil] at h2
    omega
  | p :: r, q :: t, na, nb, e => by
    have np := na.head
    have nq := nb.head
    have p0 := List.length_pos_iff.mpr np.ne
    have q0 := List.length_pos_iff.mpr nq.ne
    have one : ∀ {c : Pn}, NormP m c → isPow c = false → ∀ pt, wrt pt c = c.1 := fun {c} nc ec pt => by
      unfold wrt
      rw [nc.fix ec, val_one, pw_one]
    -- a power against a fixed piece
    have mixed : ∀ {c d : Pn} {l k : List Pn}, Nm m (c :: l) → Nm m (d :: k) → isPow c = true → isPow d = false → (∀ pt, Sp pt → wr pt (c :: l) = wr pt (d :: k)) → False := fun {c d l k} nc nd ec ed he => by
      obtain ⟨pt, sp, far⟩ := hS.far (c.1.length + tot (d :: k) + 1)
      obtain ⟨prc, opc⟩ := nc.head.pow ec
      refine no_begin (R := wr pt l) (k := valF c.2 pt) prc nd (fun z hz hp => ?_) far (Nat.le_refl _) (val_far nc.head.len opc far) (he pt sp).symm
      cases hz
      rw [ed] at hp
      cases hp
    -- two fixed pieces, the one shorter
    have shorter : ∀ {c d : Pn} {l k : List Pn}, Nm m (c :: l) → Nm m (d :: k) → isPow c = false → isPow d = false → c.1.length < d.1.length → (∀ pt, Sp pt → wr pt (c :: l) = wr pt (d :: k)) → False := fun {c d l k} nc nd ec ed hl he => by
      have ex : ∀ pt, Sp pt → d.1 = c.1 ++ d.1.drop c.1.length ∧ wr pt l = d.1.drop c.1.length ++ wr pt k := fun pt sp => by
        have := he pt sp
        rw [wr, wr, one nc.head ec, one nd.head ed] at this
        have h1 : (c.1 ++ wr pt l).take c.1.length = (d.1 ++ wr pt k).take c.1.length := by rw [this]
        rw [List.take_left, List.take_append_of_le_length (by omega)] at h1
        have sp' : d.1 = c.1 ++ d.1.drop c.1.length := by
          conv => lhs; rw [← List.take_append_drop c.1.length d.1, ← h1]
        refine ⟨sp', ?_⟩
        rw [sp', List.append_assoc] at this
        exact List.append_cancel_left this
      have xne : d.1.drop c.1.length ≠ [] := fun z => by
        have := congrArg List.length z
        rw [List.length_drop, List.length_nil] at this
        omega
      match l, nc, ex with
      | [], _, ex =>
        obtain ⟨pt, sp, _⟩ := hS.far 0
        have := (ex pt sp).2
        rw [wr] at this
        exact xne (List.append_eq_nil_iff.mp this.symm).1
      | y :: l', nc, ex =>
        have ad := nc.adj0.fix ec
        have ny := nc.tail.head
        obtain ⟨pry, opy⟩ := ny.pow ad.1
        obtain ⟨pt, sp, far⟩ := hS.far (y.1.length + tot ((d.1.drop c.1.length, one1 m) :: k) + 1)
        have nx : Nm m ((d.1.drop c.1.length, one1 m) :: k) := by
          refine ⟨fun z hz => ?_, fun i a b ha hb => ?_⟩
          · rcases List.mem_cons.mp hz with w | w
            · rw [w]; exact fixP_norm xne
            · exact nd.all z (List.mem_cons_of_mem _ w)
          · cases i with
            | succ i => exact nd.adj (i + 1) a b ha hb
            | zero =>
              cases ha
              have hb' : (d :: k)[0 + 1]? = some b := hb
              have := (nd.adj 0 d b rfl hb').fix ed
              refine ⟨fun _ => ⟨this.1, fun w => this.2 ?_⟩, fun z => by cases z⟩
              have e1 := (ex pt sp).1
              have w' : (d.1.drop c.1.length).getLast? = b.1.getLast? := w
              rw [← w']
              conv => lhs; rw [e1]
              rw [List.getLast?_append]
              cases hz : (d.1.drop c.1.length).getLast? with
              | none => exact absurd (List.getLast?_eq_none_iff.mp hz) xne
              | some c => rfl
        refine no_begin (R := wr pt l') (k := valF y.2 pt) pry nx (fun z hz hp => ?_) far (Nat.le_refl _) (val_far ny.len opy far) ?_
        · cases hz
          cases hp
        · have := (ex pt sp).2
          rw [wr] at this
          rw [wr, one (c := (d.1.drop c.1.length, one1 m)) (fixP_norm xne) rfl]
          exact this.symm
    have same : p = q → p :: r = q :: t := fun e1 => by
      subst e1
      have : r = t := uni hS na.tail nb.tail fun pt sp => by
        have := e pt sp
        rw [wr, wr] at this
        exact List.append_cancel_left this
      rw [this]
    cases ep : isPow p with
    | true =>
      cases eq' : isPow q with
      | false => exact (mixed na nb ep eq' e).elim
      | true =>
        obtain ⟨prp, opp⟩ := np.pow ep
        obtain ⟨prq, opq⟩ := nq.pow eq'
        have ew : p.1 = q.1 := by
          obtain ⟨pt, sp, far⟩ := hS.far (p.1.length + q.1.length)
          have v1 := val_far np.len opp far
          have v2 := val_far nq.len opq far
          have m1 : valF p.2 pt ≤ p.1.length * valF p.2 pt := Nat.le_mul_of_pos_left _ p0
          have m2 : valF q.2 pt ≤ q.1.length * valF q.2 pt := Nat.le_mul_of_pos_left _ q0
          have h := e pt sp
          rw [wr, wr] at h
          exact pow_same prp prq h (by omega) (by omega)
        by_cases ef : p.2 = q.2
        · exact same (Prod.ext ew ef)
        · exfalso
          have h0 : p.2.headD 0 = 0 := of_decide_eq_true ep
          have h1 : q.2.headD 0 = 0 := of_decide_eq_true eq'
          obtain ⟨pt, sp, far, hd⟩ := hS.part (p.1.length + tot r + tot t + 1) p.2 q.2 np.len nq.len h0 h1 ef
          have h := e pt sp
          rw [wr, wr] at h
          unfold wrt at h
          rcases hd with hd | hd
          · have s : pw q.1 (valF q.2 pt) = pw p.1 (valF p.2 pt) ++ pw p.1 (valF q.2 pt - valF p.2 pt) := by rw [← pw_add, ew]; congr 1; omega
            rw [s, List.append_assoc] at h
            refine no_begin (r := r) prp na.tail (fun z hz hp => ?_) far (by omega) (show _ ≤ valF q.2 pt - valF p.2 pt by omega) (List.append_cancel_left h)
            match r, na, hz with
            | z' :: r', na, hz =>
              cases hz
              exact fun y => na.adj0.pow ep hp y.symm
          · have s : pw p.1 (valF p.2 pt) = pw q.1 (valF q.2 pt) ++ pw q.1 (valF p.2 pt - valF q.2 pt) := by rw [← pw_add, ew]; congr 1; omega
            rw [s, List.append_assoc] at h
            refine no_begin (r := t) prq nb.tail (fun z hz hp => ?_) far (by rw [← ew]; omega) (show _ ≤ valF p.2 pt - valF q.2 pt by omega) (List.append_cancel_left h).symm
            match t, nb, hz with
            | z' :: r', nb, hz =>
              cases hz
              exact fun y => nb.adj0.pow eq' hp y.symm
    | false =>
      cases eq' : isPow q with
      | true => exact (mixed nb na eq' ep fun pt sp => (e pt sp).symm).elim
      | false =>
        have h1 := np.fix ep
        have h2 := nq.fix eq'
        by_cases hl : p.1.length < q.1.length
        · exact (shorter na nb ep eq' hl e).elim
        · by_cases hl2 : q.1.length < p.1.length
          · exact (shorter nb na eq' ep hl2 fun pt sp => (e pt sp).symm).elim
          · obtain ⟨pt, sp, _⟩ := hS.far 0
            have h := e pt sp
            rw [wr, wr, one np ep, one nq eq'] at h
            have := (List.append_inj h (by omega)).1
            exact same (Prod.ext this (h1.trans h2.symm))
/-! ### enough points -/
theorem dot_split : ∀ (f pt : List Nat) (j x y : Nat), f[j]? = some x → pt[j]? = some y → x * y ≤ dot f pt
  | a :: f, b :: pt, 0, x, y, hf, hp => by
    cases hf
    cases hp
    rw [dot]
    omega
  | a :: f, b :: pt, j + 1, x, y, hf, hp => by
    have := dot_split f pt j x y hf hp
    rw [dot]
    omega
  | [], _, _, _, _, hf, _ => by simp at hf
  | _ :: _, [], _, _, _, _, hp => by simp at hp
theorem dot_rest {M : Nat} : ∀ (f pt : List Nat) (j x y : Nat), f[j]? = some x → pt[j]? = some y → (∀ i z, i ≠ j → pt[i]? = some z → z ≤ M) → dot f pt ≤ x * y + f.sum * M
  | a :: f, b :: pt, 0, x, y, hf, hp, h => by
    cases hf
    cases hp
    have : dot f pt ≤ f.sum * M := by
      have key : ∀ (f pt : List Nat), (∀ z ∈ pt, z ≤ M) → dot f pt ≤ f.sum * M := fun f => by
        induction f with
        | nil => intro pt _; simp [dot]
        | cons a f ih =>
          intro pt hp
          cases pt with
          | nil => simp [dot]
          | cons b pt =>
            have h1 := ih pt fun z hz => hp z (List.mem_cons_of_mem _ hz)
            have h2 : a * b ≤ a * M := Nat.mul_le_mul_left _ (hp b List.mem_cons_self)
            rw [dot, List.sum_cons, Nat.add_mul]
            omega
      refine key f pt fun z hz => ?_
      obtain ⟨i, hi⟩ := List.getElem?_of_mem hz
      exact h (i + 1) z (by omega) hi
    rw [dot, List.sum_cons, Nat.add_mul]
    omega
  | a :: f, b :: pt, j + 1, x, y, hf, hp, h => by
    have h1 := dot_rest f pt j x y hf hp fun i z hi hz => h (i + 1) z (by omega) hz
    have h2 : a * b ≤ a * M := Nat.mul_le_mul_left _ (h 0 b (by omega) rfl)
    rw [dot, List.sum_cons, Nat.add_mul]
    omega
  | [], _, _, _, _, hf, _, _ => by simp at hf
  | _ :: _, [], _, _, _, _, hp, _ => by simp at hp
theorem head0 {f : F} {m : Nat} (hl : f.length = m + 1) (h : f.headD 0 = 0) : f = 0 :: f.tail := by
  cases f with
  | nil => simp at hl
  | cons a f =>
    have : a = 0 := h
    rw [this]
    rfl
theorem rich_of {m : Nat} {Sp : List Nat → Prop} (h0 : ∀ N, ∃ pt, Sp pt ∧ Far m N pt) (h : ∀ N, ∃ M, ∀ j K, j < m → ∃ pt, Sp pt ∧ Far m N pt ∧ (∀ i z, i ≠ j → pt[i]? = some z → z ≤ M) ∧ ∃ y, pt[j]? = some y ∧ K ≤ y) : Rich m Sp := by
  refine ⟨h0, fun N f g lf lg hf hg ne => ?_⟩
  have ef := head0 lf hf
  have eg := head0 lg hg
  have tne : f.tail ≠ g.tail := fun z => ne (by rw [ef, eg, z])
  have lt1 : f.tail.length = m := by rw [List.length_tail, lf]; rfl
  have lt2 : g.tail.length = m := by rw [List.length_tail, lg]; rfl
  have hv : ∀ (f : F) (pt : List Nat), f.headD 0 = 0 → valF f pt = dot f.tail pt := fun f pt z => by unfold valF; rw [z, Nat.zero_add]
  obtain ⟨j, hj⟩ : ∃ j, f.tail[j]? ≠ g.tail[j]? := Classical.byContradiction fun z => tne (List.ext_getElem? fun i => Classical.byContradiction fun y => z ⟨i, y⟩)
  have jm : j < m := Classical.byContradiction fun z => hj (by rw [List.getElem?_eq_none (by omega), List.getElem?_eq_none (by omega)])
  obtain ⟨x1, e1⟩ : ∃ x, f.tail[j]? = some x := ⟨_, List.getElem?_eq_getElem (by omega)⟩
  obtain ⟨x2, e2⟩ : ∃ x, g.tail[j]? = some x := ⟨_, List.getElem?_eq_getElem (by omega)⟩
  have xne : x1 ≠ x2 := fun z => hj (by rw [e1, e2, z])
  obtain ⟨M, hM⟩ := h N
  obtain ⟨pt, sp, far, small, y, hy, ky⟩ := hM j (f.tail.sum * M + g.tail.sum * M + N) jm
  refine ⟨pt, sp, far, ?_⟩
  rw [hv f pt hf, hv g pt hg]
  have a1 := dot_split f.tail pt j x1 y e1 hy
  have a2 := dot_split g.tail pt j x2 y e2 hy
  have b1 := dot_rest f.tail pt j x1 y e1 hy small
  have b2 := dot_rest g.tail pt j x2 y e2 hy small
  rcases Nat.lt_or_gt_of_ne xne with z | z
  · refine .inl ?_
    have : (x1 + 1) * y ≤ x2 * y := Nat.mul_le_mul_right _ z
    rw [Nat.add_mul, Nat.one_mul] at this
    omega
  · refine .inr ?_
    have : (x2 + 1) * y ≤ x1 * y := Nat.mul_le_mul_right _ z
    rw [Nat.add_mul, Nat.one_mul] at this
    omega
/-- all points -/
def AllPt (m : Nat) (pt : List Nat) : Prop := pt.length = m
theorem rich_all (m : Nat) : Rich m (AllPt m) := by
  refine rich_of (fun N => ⟨List.replicate m N, by simp [AllPt], by simp [Far]⟩) fun N => ⟨N, fun j K hj => ⟨(List.replicate m N).set j (N + K), by simp [AllPt], ⟨by simp, fun x hx => ?_⟩, fun i z hi hz => ?_, N + K, ?_, by omega⟩⟩
  · rcases List.mem_or_eq_of_mem_set hx with w | w
    · rw [List.eq_of_mem_replicate w]; exact Nat.le_refl _
    · rw [w]; omega
  · rw [List.getElem?_set_ne (Ne.symm hi)] at hz
    have := List.mem_of_getElem? hz
    rw [List.eq_of_mem_replicate this]
    exact Nat.le_refl _
  · rw [List.getElem?_set_self (by simpa using hj)]
/-- lists that write the same words have one normal list -/
theorem norm_same {m : Nat} {a b : List Pn} (ha : LenF m a) (hb : LenF m b) (h : ∀ pt, pt.length = m → wr pt a = wr pt b) : normL a = normL b :=
  uni (rich_all m) (nm_normL ha) (nm_normL hb) fun pt sp => by rw [wr_normL ha, wr_normL hb]; exact h pt sp
end NM

set_option linter.all false
set_option maxRecDepth 100000
/-! one great point decides: two normal lists that write the same word there are the same -/
namespace NM
open WM
theorem stp {u S k : Nat} (h : 0 < u) (hk : S + 1 ≤ k) : S + u ≤ u * k := by
  have h1 : u * (S + 1) ≤ u * k := Nat.mul_le_mul_left _ hk
  have h2 : S ≤ u * S := Nat.le_mul_of_pos_left _ h
  rw [Nat.mul_succ] at h1
  omega
theorem no_begin1 {m S k : Nat} {u R : W} {pt : List Nat} (hu : Prim u) (us : u.length ≤ S) : ∀ {r : List Pn}, Nm m r → (∀ q, r.head? = some q → isPow q = true → q.1 ≠ u) → Far m (S + 1) pt → tot r ≤ S → S + 1 ≤ k → wr pt r = pw u k ++ R → False
  | [], _, _, _, _, hk, e => by
    have u0 := List.length_pos_iff.mpr hu.1
    have := congrArg List.length e
    rw [List.length_append, pw_len, wr] at this
    have := stp u0 hk
    simp at *
    omega
  | q :: t, nm, hq, far, hN, hk, e => by
    have u0 := List.length_pos_iff.mpr hu.1
    have uk := stp u0 hk
    have nq := nm.head
    have q0 := List.length_pos_iff.mpr nq.ne
    rw [tot_cons] at hN
    rw [wr] at e
    cases ep : isPow q with
    | true =>
      obtain ⟨pr, op⟩ := nq.pow ep
      have v := val_far nq.len op far
      have qv := stp q0 v
      exact hq q rfl ep (pow_same pr hu e (by omega) (by omega))
    | false =>
      have ef : wrt pt q = q.1 := by
        have := nq.fix ep
        unfold wrt
        rw [this, val_one, pw_one]
      rw [ef] at e
      match t, nm, e, hN with
      | [], nm, e, hN =>
        have := congrArg List.length e
        rw [wr, List.append_nil, List.length_append, pw_len] at this
        omega
      | q2 :: t2, nm, e, hN =>
        have ad := nm.adj0.fix ep
        have n2 := nm.tail.head
        obtain ⟨_, op⟩ := n2.pow ad.1
        have v := val_far n2.len op far
        have q20 := List.length_pos_iff.mpr n2.ne
        have qv := stp q20 v
        rw [tot_cons] at hN
        rw [wr] at e
        have e' : pw u k ++ R = q.1 ++ (pw q2.1 (valF q2.2 pt) ++ wr pt t2) := e.symm
        exact ad.2 (turn_last hu.1 n2.ne nq.ne e' (by omega) (by omega))
/-- at a point whose numbers are above both sizes, and which parts all forms by as much -/
theorem uni1 {m S : Nat} {pt : List Nat} (Fm : F → Prop) (far : Far m (S + 1) pt) (part : ∀ f g, Fm f → Fm g → f.length = m + 1 → g.length = m + 1 → f.headD 0 = 0 → g.headD 0 = 0 → f ≠ g → valF f pt + (S + 1) ≤ valF g pt ∨ valF g pt + (S + 1) ≤ valF f pt) :
    ∀ {a b : List Pn}, Nm m a → Nm m b → (∀ p ∈ a, isPow p = true → Fm p.2) → (∀ p ∈ b, isPow p = true → Fm p.2) → tot a ≤ S → tot b ≤ S → wr pt a = wr pt b → a = b
  | [], [], _, _, _, _, _, _, _ => rfl
  | [], q :: t, _, nb, _, _, _, _, e => by
    exfalso
    have nq := nb.head
    have q0 := List.length_pos_iff.mpr nq.ne
    have v : 1 ≤ valF q.2 pt := by
      cases ep : isPow q with
      | true => have := val_far nq.len (nq.pow ep).2 far; omega
      | false => rw [nq.fix ep, val_one]; exact Nat.le_refl _
    have lw : (wrt pt q).length = q.1.length * valF q.2 pt := pw_len _ _
    have : 0 < q.1.length * valF q.2 pt := Nat.mul_pos q0 v
    have h := e
    rw [wr, wr] at h
    have h2 := congrArg List.length h
    rw [List.length_append] at h2
    simp only [List.length_nil] at h2
    omega
  | p :: r, [], na, _, _, _, _, _, e => by
    exfalso
    have nq := na.head
    have q0 := List.length_pos_iff.mpr nq.ne
    have v : 1 ≤ valF p.2 pt := by
      cases ep : isPow p with
      | true => have := val_far nq.len (nq.pow ep).2 far; omega
      | false => rw [nq.fix ep, val_one]; exact Nat.le_refl _
    have lw : (wrt pt p).length = p.1.length * valF p.2 pt := pw_len _ _
    have : 0 < p.1.length * valF p.2 pt := Nat.mul_pos q0 v
    have h := e
    rw [wr, wr] at h
    have h2 := congrArg List.length h
    rw [List.length_append] at h2
    simp only [List.length_nil] at h2
    omega
  | p :: r, q :: t, na, nb, fa, fb, ta, tb, e => by
    have np := na.head
    have nq := nb.head
    have p0 := List.length_pos_iff.mpr np.ne
    have q0 := List.length_pos_iff.mpr nq.ne
    have one : ∀ {c : Pn}, NormP m c → isPow c = false → ∀ pt, wrt pt c = c.1 := fun {c} nc ec pt => by
      unfold wrt
      rw [nc.fix ec, val_one, pw_one]
    have mixed : ∀ {c d : Pn} {l k : List Pn}, Nm m (c :: l) → Nm m (d :: k) → tot (c :: l) ≤ S → tot (d :: k) ≤ S → isPow c = true → isPow d = false → wr pt (c :: l) = wr pt (d :: k) → False := fun {c d l k} nc nd tc td ec ed he => by
      obtain ⟨prc, opc⟩ := nc.head.pow ec
      rw [tot_cons] at tc
      refine no_begin1 (R := wr pt l) (k := valF c.2 pt) prc (by omega) nd (fun z hz hp => ?_) far td (val_far nc.head.len opc far) he.symm
      cases hz
      rw [ed] at hp
      cases hp
    have shorter : ∀ {c d : Pn} {l k : List Pn}, Nm m (c :: l) → Nm m (d :: k) → tot (c :: l) ≤ S → tot (d :: k) ≤ S → isPow c = false → isPow d = false → c.1.length < d.1.length → wr pt (c :: l) = wr pt (d :: k) → False := fun {c d l k} nc nd tc td ec ed hl he => by
      have ex : d.1 = c.1 ++ d.1.drop c.1.length ∧ wr pt l = d.1.drop c.1.length ++ wr pt k := by
        have := he
        rw [wr, wr, one nc.head ec, one nd.head ed] at this
        have h1 : (c.1 ++ wr pt l).take c.1.length = (d.1 ++ wr pt k).take c.1.length := by rw [this]
        rw [List.take_left, List.take_append_of_le_length (by omega)] at h1
        have sp' : d.1 = c.1 ++ d.1.drop c.1.length := by
          conv => lhs; rw [← List.take_append_drop c.1.length d.1, ← h1]
        refine ⟨sp', ?_⟩
        rw [sp', List.append_assoc] at this
        exact List.append_cancel_left this
      have xne : d.1.drop c.1.length ≠ [] := fun z => by
        have := congrArg List.length z
        rw [List.length_drop, List.length_nil] at this
        omega
      match l, nc, ex, tc with
      | [], _, ex, _ =>
        have := ex.2
        rw [wr] at this
        exact xne (List.append_eq_nil_iff.mp this.symm).1
      | y :: l', nc, ex, tc =>
        have ad := nc.adj0.fix ec
        have ny := nc.tail.head
        obtain ⟨pry, opy⟩ := ny.pow ad.1
        have nx : Nm m ((d.1.drop c.1.length, one1 m) :: k) := by
          refine ⟨fun z hz => ?_, fun i a b ha hb => ?_⟩
          · rcases List.mem_cons.mp hz with w | w
            · rw [w]; exact fixP_norm xne
            · exact nd.all z (List.mem_cons_of_mem _ w)
          · cases i with
            | succ i => exact nd.adj (i + 1) a b ha hb
            | zero =>
              cases ha
              have hb' : (d :: k)[0 + 1]? = some b := hb
              have := (nd.adj 0 d b rfl hb').fix ed
              refine ⟨fun _ => ⟨this.1, fun w => this.2 ?_⟩, fun z => by cases z⟩
              have e1 := ex.1
              have w' : (d.1.drop c.1.length).getLast? = b.1.getLast? := w
              rw [← w']
              conv => lhs; rw [e1]
              rw [List.getLast?_append]
              cases hz : (d.1.drop c.1.length).getLast? with
              | none => exact absurd (List.getLast?_eq_none_iff.mp hz) xne
              | some c => rfl
        rw [tot_cons, tot_cons] at tc
        rw [tot_cons] at td
        refine no_begin1 (R := wr pt l') (k := valF y.2 pt) pry (by omega) nx (fun z hz hp => ?_) far ?_ (val_far ny.len opy far) ?_
        · cases hz
          cases hp
        · rw [tot_cons]
          show (d.1.drop c.1.length).length + _ ≤ _
          rw [List.length_drop]
          omega
        · have := ex.2
          rw [wr] at this
          rw [wr, one (c := (d.1.drop c.1.length, one1 m)) (fixP_norm xne) rfl]
          exact this.symm
    have ta' := ta
    have tb' := tb
    rw [tot_cons] at ta' tb'
    have same : p = q → p :: r = q :: t := fun e1 => by
      subst e1
      have : r = t := uni1 Fm far part na.tail nb.tail (fun z hz => fa z (List.mem_cons_of_mem _ hz)) (fun z hz => fb z (List.mem_cons_of_mem _ hz)) (by omega) (by omega) (by
        have := e
        rw [wr, wr] at this
        exact List.append_cancel_left this)
      rw [this]
    cases ep : isPow p with
    | true =>
      cases eq' : isPow q with
      | false => exact (mixed na nb ta tb ep eq' e).elim
      | true =>
        obtain ⟨prp, opp⟩ := np.pow ep
        obtain ⟨prq, opq⟩ := nq.pow eq'
        have ew : p.1 = q.1 := by
          have v1 := stp p0 (val_far np.len opp far)
          have v2 := stp q0 (val_far nq.len opq far)
          have h := e
          rw [wr, wr] at h
          exact pow_same prp prq h (by omega) (by omega)
        by_cases ef : p.2 = q.2
        · exact same (Prod.ext ew ef)
        · exfalso
          have h0 : p.2.headD 0 = 0 := of_decide_eq_true ep
          have h1 : q.2.headD 0 = 0 := of_decide_eq_true eq'
          have hd := part p.2 q.2 (fa p List.mem_cons_self ep) (fb q List.mem_cons_self eq') np.len nq.len h0 h1 ef
          have h := e
          rw [wr, wr] at h
          unfold wrt at h
          rcases hd with hd | hd
          · have s : pw q.1 (valF q.2 pt) = pw p.1 (valF p.2 pt) ++ pw p.1 (valF q.2 pt - valF p.2 pt) := by rw [← pw_add, ew]; congr 1; omega
            rw [s, List.append_assoc] at h
            refine no_begin1 (r := r) prp (by omega) na.tail (fun z hz hp => ?_) far (by omega) (show _ ≤ valF q.2 pt - valF p.2 pt by omega) (List.append_cancel_left h)
            match r, na, hz with
            | z' :: r', na, hz =>
              cases hz
              exact fun y => na.adj0.pow ep hp y.symm
          · have s : pw p.1 (valF p.2 pt) = pw q.1 (valF q.2 pt) ++ pw q.1 (valF p.2 pt - valF q.2 pt) := by rw [← pw_add, ew]; congr 1; omega
            rw [s, List.append_assoc] at h
            refine no_begin1 (r := t) prq (by omega) nb.tail (fun z hz hp => ?_) far (by omega) (show _ ≤ valF p.2 pt - valF q.2 pt by omega) (List.append_cancel_left h).symm
            match t, nb, hz with
            | z' :: r', nb, hz =>
              cases hz
              exact fun y => nb.adj0.pow eq' hp y.symm
    | false =>
      cases eq' : isPow q with
      | true => exact (mixed nb na tb ta eq' ep e.symm).elim
      | false =>
        have h1 := np.fix ep
        have h2 := nq.fix eq'
        by_cases hl : p.1.length < q.1.length
        · exact (shorter na nb ta tb ep eq' hl e).elim
        · by_cases hl2 : q.1.length < p.1.length
          · exact (shorter nb na tb ta eq' ep hl2 e.symm).elim
          · have h := e
            rw [wr, wr, one np ep, one nq eq'] at h
            have := (List.append_inj h (by omega)).1
            exact same (Prod.ext this (h1.trans h2.symm))
/-- a point that grows: start, start * by, start * by * by .. -/
def grow (by' : Nat) : Nat → Nat → List Nat
  | 0, _ => []
  | m + 1, s => s :: grow by' m (s * by')
theorem grow_len (b : Nat) : ∀ m s, (grow b m s).length = m
  | 0, _ => rfl
  | m + 1, s => by rw [grow, List.length_cons, grow_len b m]
theorem grow_far {b N : Nat} (hb : 1 ≤ b) : ∀ m s, N ≤ s → ∀ x ∈ grow b m s, N ≤ x
  | 0, _, _, x, hx => absurd hx List.not_mem_nil
  | m + 1, s, hs, x, hx => by
    rw [grow] at hx
    rcases List.mem_cons.mp hx with rfl | hx
    · exact hs
    · exact grow_far hb m (s * b) (Nat.le_trans hs (Nat.le_mul_of_pos_right _ hb)) x hx
theorem grow_part {b : Nat} (hb : 1 ≤ b) : ∀ (m s : Nat) (f g : List Nat), f.length = m → g.length = m → (∀ x ∈ f, x < b) → (∀ x ∈ g, x < b) → f ≠ g → dot f (grow b m s) + s ≤ dot g (grow b m s) ∨ dot g (grow b m s) + s ≤ dot f (grow b m s)
  | 0, _, [], [], _, _, _, _, h => absurd rfl h
  | m + 1, s, x :: f, y :: g, hf, hg, bf, bg, h => by
    rw [grow, dot, dot]
    have hx := bf x List.mem_cons_self
    have hy := bg y List.mem_cons_self
    by_cases e : f = g
    · subst e
      have ne : x ≠ y := fun z => h (by rw [z])
      rcases Nat.lt_or_gt_of_ne ne with l | l
      · left
        have := Nat.mul_le_mul_right s (show x + 1 ≤ y from l)
        rw [Nat.succ_mul] at this
        omega
      · right
        have := Nat.mul_le_mul_right s (show y + 1 ≤ x from l)
        rw [Nat.succ_mul] at this
        omega
    · have ih := grow_part hb m (s * b) f g (by simpa using hf) (by simpa using hg) (fun z hz => bf z (List.mem_cons_of_mem _ hz)) (fun z hz => bg z (List.mem_cons_of_mem _ hz)) e
      have x1 := Nat.mul_le_mul_right s (show x + 1 ≤ b from hx)
      have y1 := Nat.mul_le_mul_right s (show y + 1 ≤ b from hy)
      rw [Nat.succ_mul, Nat.mul_comm b s] at x1 y1
      rcases ih with ih | ih
      · left; omega
      · right; omega
/-- the great point decides -/
theorem decide_at {m S b s : Nat} {ps qs : List Pn} (hp : LenF m ps) (hq : LenF m qs) (tp : tot (normL ps) ≤ S) (tq : tot (normL qs) ≤ S) (bp : ∀ p ∈ normL ps, isPow p = true → ∀ x ∈ p.2.tail, x < b) (bq : ∀ p ∈ normL qs, isPow p = true → ∀ x ∈ p.2.tail, x < b) (hb : 1 ≤ b) (hs : S + 1 ≤ s) :
    wr (grow b m s) ps = wr (grow b m s) qs ↔ normL ps = normL qs := by
  rw [← wr_normL hp, ← wr_normL hq]
  refine ⟨fun e => ?_, fun e => by rw [e]⟩
  refine uni1 (S := S) (fun f => ∀ x ∈ f.tail, x < b) ⟨grow_len b m s, grow_far hb m s hs⟩ (fun f g hf hg lf lg f0 g0 ne => ?_) (nm_normL hp) (nm_normL hq) bp bq tp tq e
  have nt : f.tail ≠ g.tail := fun z => ne (by rw [head0 lf f0, head0 lg g0, z])
  have := grow_part hb m s f.tail g.tail (by rw [List.length_tail, lf]; rfl) (by rw [List.length_tail, lg]; rfl) hf hg nt
  unfold valF
  rw [f0, g0]
  omega
theorem grow_times (b k : Nat) : ∀ m s, (grow b m s).map (fun x => x * k) = grow b m (s * k)
  | 0, _ => rfl
  | m + 1, s => by rw [grow, grow, List.map_cons, grow_times b k m, Nat.mul_right_comm]
end NM

set_option linter.all false
set_option maxRecDepth 100000
/-! sums of few exponentials: one that is not zero everywhere is not zero at a point near the axes -/
namespace SP
/-- the product of the numbers, each increased by 1 -/
def crs : List Nat → Nat
  | [] => 1
  | x :: r => (x + 1) * crs r
def ev : List Int → List Nat → Int
  | b :: bs, x :: xs => b ^ x * ev bs xs
  | _, _ => 1
abbrev Tm := Int × List Int
def vl : List Tm → List Nat → Int
  | [], _ => 0
  | t :: T, pt => t.1 * ev t.2 pt + vl T pt
def sumI : List Int → (Int → Int) → Int
  | [], _ => 0
  | b :: r, g => g b + sumI r g
theorem sumI_congr {g h : Int → Int} : ∀ l : List Int, (∀ b ∈ l, g b = h b) → sumI l g = sumI l h
  | [], _ => rfl
  | b :: r, e => by rw [sumI, sumI, e b List.mem_cons_self, sumI_congr r fun c hc => e c (List.mem_cons_of_mem _ hc)]
theorem sumI_zero : ∀ (l : List Int) (g : Int → Int), (∀ b ∈ l, g b = 0) → sumI l g = 0
  | [], _, _ => rfl
  | b :: r, g, e => by rw [sumI, e b List.mem_cons_self, sumI_zero r g fun c hc => e c (List.mem_cons_of_mem _ hc)]; rfl
theorem sumI_add (g h : Int → Int) : ∀ l : List Int, sumI l (fun b => g b + h b) = sumI l g + sumI l h
  | [] => rfl
  | b :: r => by rw [sumI, sumI, sumI, sumI_add g h r]; omega
theorem sumI_mul (c : Int) (g : Int → Int) : ∀ l : List Int, sumI l (fun b => c * g b) = c * sumI l g
  | [] => by rw [sumI, sumI, Int.mul_zero]
  | b :: r => by rw [sumI, sumI, sumI_mul c g r, Int.mul_add]
/-- of a list without repeats, one is picked -/
theorem sumI_pick (h : Int) (g : Int → Int) : ∀ l : List Int, l.Nodup → h ∈ l → sumI l (fun b => if h = b then g b else 0) = g h
  | [], _, m => absurd m List.not_mem_nil
  | b :: r, nd, m => by
    rw [sumI]
    have n1 := (List.nodup_cons.mp nd).1
    have n2 := (List.nodup_cons.mp nd).2
    by_cases e : h = b
    · subst e
      rw [if_pos rfl, sumI_zero r (fun b => if h = b then g b else 0) fun c hc => if_neg fun z => n1 (by rw [z]; exact hc)]
      omega
    · rw [if_neg e, sumI_pick h g r n2 ((List.mem_cons.mp m).resolve_left e)]
      omega
theorem sumI_filter (g : Int → Int) (p : Int → Bool) : ∀ l : List Int, (∀ b ∈ l, p b = false → g b = 0) → sumI (l.filter p) g = sumI l g
  | [], _ => rfl
  | b :: r, h => by
    have ih := sumI_filter g p r fun c hc => h c (List.mem_cons_of_mem _ hc)
    by_cases e : p b = true
    · rw [List.filter_cons_of_pos e, sumI, sumI, ih]
    · rw [List.filter_cons_of_neg e, sumI, ih, h b List.mem_cons_self (by simpa using e)]
      omega
/-- powers of different numbers -/
theorem vander : ∀ (l : List Int) (g : Int → Int), l.Nodup → (∀ x, x < l.length → sumI l (fun b => b ^ x * g b) = 0) → ∀ b ∈ l, g b = 0
  | [], _, _, _, b, hb => absurd hb List.not_mem_nil
  | c :: r, g, nd, h, b, hb => by
    have n1 := (List.nodup_cons.mp nd).1
    have n2 := (List.nodup_cons.mp nd).2
    have rest : ∀ d ∈ r, g d = 0 := fun d hd => by
      have ih := vander r (fun b => (b - c) * g b) n2 (fun x hx => ?_) d hd
      · have ne : d - c ≠ 0 := fun z => n1 (by rw [show c = d by omega]; exact hd)
        exact (Int.mul_eq_zero.mp ih).resolve_left ne
      · have h1 := h (x + 1) (by rw [List.length_cons]; omega)
        have h0 := h x (by rw [List.length_cons]; omega)
        rw [sumI] at h1 h0
        have e : sumI r (fun b => b ^ x * ((b - c) * g b)) = sumI r (fun b => b ^ (x + 1) * g b) + sumI r (fun b => (-c) * (b ^ x * g b)) := by
          rw [← sumI_add]
          refine sumI_congr r fun b _ => ?_
          rw [Int.pow_succ, Int.sub_mul, Int.mul_sub, Int.neg_mul, Int.sub_eq_add_neg]
          congr 1
          · rw [Int.mul_assoc]
          · rw [Int.mul_left_comm]
        rw [e, sumI_mul]
        have e1 : sumI r (fun b => b ^ (x + 1) * g b) = -(c ^ (x + 1) * g c) := by omega
        have e0 : sumI r (fun b => b ^ x * g b) = -(c ^ x * g c) := by omega
        rw [e1, e0, Int.pow_succ, Int.mul_neg, Int.neg_mul, Int.neg_neg, ← Int.mul_assoc, Int.mul_comm c (c ^ x)]
        omega
    rcases List.mem_cons.mp hb with e | hb
    · subst e
      have h0 := h 0 (by rw [List.length_cons]; omega)
      rw [sumI, sumI_zero r _ fun d hd => by rw [rest d hd, Int.mul_zero]] at h0
      simpa using h0
    · exact rest b hb
/-- each once -/
def dd : List Int → List Int
  | [] => []
  | a :: l => if a ∈ dd l then dd l else a :: dd l
theorem mem_dd : ∀ {l : List Int} {a : Int}, a ∈ l → a ∈ dd l
  | b :: l, a, h => by
    rw [dd]
    rcases List.mem_cons.mp h with e | h
    · subst e
      split
      · assumption
      · exact List.mem_cons_self
    · split
      · exact mem_dd h
      · exact List.mem_cons_of_mem _ (mem_dd h)
theorem nodup_dd : ∀ l : List Int, (dd l).Nodup
  | [] => List.nodup_nil
  | a :: l => by
    rw [dd]
    split
    · exact nodup_dd l
    · rename_i h
      exact List.nodup_cons.mpr ⟨h, nodup_dd l⟩
def hd (t : Tm) : Int := t.2.headD 0
def grp (b : Int) : List Tm → List Tm
  | [] => []
  | t :: T => if hd t = b then (t.1, t.2.tail) :: grp b T else grp b T
theorem grp_mem {b : Int} : ∀ {T : List Tm} {t : Tm}, t ∈ grp b T → ∃ s ∈ T, t.2 = s.2.tail
  | s :: T, t, h => by
    rw [grp] at h
    split at h
    · rcases List.mem_cons.mp h with e | h
      · exact ⟨s, List.mem_cons_self, by rw [e]⟩
      · obtain ⟨r, hr, e⟩ := grp_mem h
        exact ⟨r, List.mem_cons_of_mem _ hr, e⟩
    · obtain ⟨r, hr, e⟩ := grp_mem h
      exact ⟨r, List.mem_cons_of_mem _ hr, e⟩
theorem vl_groups {B : List Int} (nd : B.Nodup) (x : Nat) (y : List Nat) : ∀ T : List Tm, (∀ t ∈ T, t.2 ≠ []) → (∀ t ∈ T, hd t ∈ B) → vl T (x :: y) = sumI B fun b => b ^ x * vl (grp b T) y
  | [], _, _ => by
    rw [vl, sumI_zero]
    intro b _
    rw [grp, vl, Int.mul_zero]
  | t :: T, hne, hB => by
    have ih := vl_groups nd x y T (fun s hs => hne s (List.mem_cons_of_mem _ hs)) fun s hs => hB s (List.mem_cons_of_mem _ hs)
    have hb := hB t List.mem_cons_self
    have ht := hne t List.mem_cons_self
    have e1 : ∀ b, b ^ x * vl (grp b (t :: T)) y = (if hd t = b then b ^ x * (t.1 * ev t.2.tail y) else 0) + b ^ x * vl (grp b T) y := fun b => by
      rw [grp]
      by_cases e : hd t = b
      · rw [if_pos e, if_pos e, vl, Int.mul_add]
      · rw [if_neg e, if_neg e, Int.zero_add]
    rw [sumI_congr B fun b _ => e1 b, sumI_add, sumI_pick (hd t) (fun b => b ^ x * (t.1 * ev t.2.tail y)) B nd hb, ← ih, vl]
    congr 1
    obtain ⟨c, bs⟩ := t
    cases bs with
    | nil => exact absurd rfl ht
    | cons b r =>
      show c * (b ^ x * ev r y) = b ^ x * (c * ev r y)
      rw [Int.mul_left_comm]
def sumN : List Int → (Int → Nat) → Nat
  | [], _ => 0
  | b :: r, g => g b + sumN r g
theorem sumN_filter (g : Int → Nat) (p : Int → Bool) : ∀ l : List Int, sumN (l.filter p) g ≤ sumN l g
  | [] => Nat.le_refl _
  | b :: r => by
    have := sumN_filter g p r
    by_cases e : p b = true
    · rw [List.filter_cons_of_pos e, sumN, sumN]; omega
    · rw [List.filter_cons_of_neg e, sumN]; omega
theorem sumN_grp_nil (t : Tm) (T : List Tm) : ∀ B : List Int, hd t ∉ B → sumN B (fun b => (grp b (t :: T)).length) = sumN B fun b => (grp b T).length
  | [], _ => rfl
  | b :: r, h => by
    have n1 : hd t ≠ b := fun z => h (by rw [z]; exact List.mem_cons_self)
    have n2 : hd t ∉ r := fun z => h (List.mem_cons_of_mem _ z)
    rw [sumN, sumN, sumN_grp_nil t T r n2]
    show (if hd t = b then _ else grp b T).length + _ = _
    rw [if_neg n1]
theorem sumN_grp (t : Tm) (T : List Tm) : ∀ B : List Int, B.Nodup → sumN B (fun b => (grp b (t :: T)).length) ≤ 1 + sumN B fun b => (grp b T).length
  | [], _ => Nat.zero_le _
  | b :: r, nd => by
    have n1 := (List.nodup_cons.mp nd).1
    have n2 := (List.nodup_cons.mp nd).2
    rw [sumN, sumN]
    by_cases e : hd t = b
    · rw [sumN_grp_nil t T r (by rw [e]; exact n1)]
      show (if hd t = b then (t.1, t.2.tail) :: grp b T else grp b T).length + _ ≤ _
      rw [if_pos e, List.length_cons]
      omega
    · have := sumN_grp t T r n2
      show (if hd t = b then (t.1, t.2.tail) :: grp b T else grp b T).length + _ ≤ _
      rw [if_neg e]
      omega
theorem sumN_all {B : List Int} (nd : B.Nodup) : ∀ T : List Tm, sumN B (fun b => (grp b T).length) ≤ T.length
  | [] => by
    have : ∀ B : List Int, sumN B (fun b => (grp b []).length) = 0 := fun B => by
      induction B with
      | nil => rfl
      | cons b r ih => rw [sumN, ih]; rfl
    rw [this]
    exact Nat.zero_le _
  | t :: T => by
    have h1 := sumN_grp t T B nd
    have h2 := sumN_all nd T
    rw [List.length_cons]
    omega
theorem least_mul (g : Int → Nat) : ∀ l : List Int, l ≠ [] → ∃ b ∈ l, l.length * g b ≤ sumN l g
  | [b], _ => ⟨b, List.mem_cons_self, by rw [sumN, sumN, List.length_singleton]; omega⟩
  | b :: c :: r, _ => by
    obtain ⟨d, hd, h⟩ := least_mul g (c :: r) (List.cons_ne_nil _ _)
    by_cases e : g b ≤ g d
    · refine ⟨b, List.mem_cons_self, ?_⟩
      have : (c :: r).length * g b ≤ (c :: r).length * g d := Nat.mul_le_mul_left _ e
      rw [sumN, List.length_cons, Nat.succ_mul]
      omega
    · refine ⟨d, List.mem_cons_of_mem _ hd, ?_⟩
      rw [sumN, List.length_cons, Nat.succ_mul]
      omega
theorem sparse : ∀ (m : Nat) (T : List Tm), (∀ t ∈ T, t.2.length = m) → ∀ pt : List Nat, pt.length = m → vl T pt ≠ 0 → ∃ qt : List Nat, qt.length = m ∧ crs qt ≤ T.length ∧ vl T qt ≠ 0
  | 0, T, _, pt, hp, h => by
    refine ⟨pt, hp, ?_, h⟩
    cases T with
    | nil => exact absurd rfl h
    | cons t T =>
      rw [List.length_eq_zero_iff.mp hp, crs, List.length_cons]
      omega
  | m + 1, T, hT, [], hp, _ => by simp at hp
  | m + 1, T, hT, x :: y, hp, h => by
    have hy : y.length = m := by simpa using hp
    have hne : ∀ t ∈ T, t.2 ≠ [] := fun t ht z => by
      have := hT t ht
      rw [z] at this
      cases this
    have nd := nodup_dd (T.map hd)
    have hB : ∀ t ∈ T, hd t ∈ dd (T.map hd) := fun t ht => mem_dd (List.mem_map.mpr ⟨t, ht, rfl⟩)
    generalize dd (T.map hd) = B at nd hB
    have tails : ∀ b, ∀ t ∈ grp b T, t.2.length = m := fun b t ht => by
      obtain ⟨s, hs, e⟩ := grp_mem ht
      rw [e, List.length_tail, hT s hs]
      rfl
    -- the groups that are not zero everywhere
    have dec : ∀ b, Decidable (∃ z : List Nat, z.length = m ∧ vl (grp b T) z ≠ 0) := fun b => Classical.propDecidable _
    let p : Int → Bool := fun b => @decide _ (dec b)
    have hp1 : ∀ b, p b = true → ∃ z : List Nat, z.length = m ∧ vl (grp b T) z ≠ 0 := fun b e => @of_decide_eq_true _ (dec b) e
    have hp0 : ∀ b, p b = false → ∀ z : List Nat, z.length = m → vl (grp b T) z = 0 := fun b e z hz => Classical.byContradiction fun n => (@of_decide_eq_false _ (dec b) e) ⟨z, hz, n⟩
    have red : ∀ (x : Nat) (z : List Nat), z.length = m → vl T (x :: z) = sumI (B.filter p) fun b => b ^ x * vl (grp b T) z := fun x z hz => by
      rw [vl_groups nd x z T hne hB, sumI_filter _ p B fun b _ e => by rw [hp0 b e z hz, Int.mul_zero]]
    have ndf : (B.filter p).Nodup := nd.sublist List.filter_sublist
    have fne : B.filter p ≠ [] := fun z => by
      apply h
      rw [red x y hy, z]
      rfl
    have tot : sumN (B.filter p) (fun b => (grp b T).length) ≤ T.length := Nat.le_trans (sumN_filter _ p B) (sumN_all nd T)
    obtain ⟨b, hb, hle⟩ := least_mul (fun b => (grp b T).length) (B.filter p) fne
    obtain ⟨z, hz, nz⟩ := hp1 b (List.mem_filter.mp hb).2
    obtain ⟨w, hw, cw, nw⟩ := sparse m (grp b T) (tails b) z hz nz
    have : ∃ x, x < (B.filter p).length ∧ sumI (B.filter p) (fun b => b ^ x * vl (grp b T) w) ≠ 0 := Classical.byContradiction fun n => by
      refine nw (vander (B.filter p) (fun b => vl (grp b T) w) ndf (fun x hx => Classical.byContradiction fun e => n ⟨x, hx, e⟩) b hb)
    obtain ⟨x', hx', n'⟩ := this
    refine ⟨x' :: w, by rw [List.length_cons, hw], ?_, by rw [red x' w hw]; exact n'⟩
    rw [crs]
    have a1 : (x' + 1) * crs w ≤ (B.filter p).length * (grp b T).length := Nat.mul_le_mul hx' cw
    have hle' : (B.filter p).length * (grp b T).length ≤ sumN (B.filter p) fun b => (grp b T).length := hle
    omega
end SP

set_option linter.all false
set_option maxRecDepth 100000
namespace NM
open WM
/-! ### what keeps two texts apart -/
theorem norm_iff {m : Nat} {a b : List Pn} (ha : LenF m a) (hb : LenF m b) : normL a = normL b ↔ ∀ pt, pt.length = m → wr pt a = wr pt b := by
  refine ⟨fun e pt _ => ?_, norm_same ha hb⟩
  rw [← wr_normL ha, e, wr_normL hb]
/-- two lists made of two texts: they write the same exactly where the texts do -/
theorem made_iff {m m' : Nat} {a b a' b' : List Pn} {Sp : List Nat → Prop} (hS : Rich m Sp) (ha : LenF m a) (hb : LenF m b) (ha' : LenF m' a') (hb' : LenF m' b')
    (h1 : (∀ pt, pt.length = m → wr pt a = wr pt b) → ∀ pt, pt.length = m' → wr pt a' = wr pt b') (h2 : (∀ pt, pt.length = m' → wr pt a' = wr pt b') → ∀ pt, Sp pt → wr pt a = wr pt b) : normL a' = normL b' ↔ normL a = normL b := by
  constructor
  · intro e
    refine uni hS (nm_normL ha) (nm_normL hb) fun pt sp => ?_
    rw [wr_normL ha, wr_normL hb]
    exact h2 ((norm_iff ha' hb').mp e) pt sp
  · intro e
    exact (norm_iff ha' hb').mpr (h1 ((norm_iff ha hb).mp e))
theorem lenF_app {m : Nat} {a b : List Pn} (ha : LenF m a) (hb : LenF m b) : LenF m (a ++ b) := fun p hp => (List.mem_append.mp hp).elim (ha p) (hb p)
theorem join_iff {m : Nat} {a b c : List Pn} (ha : LenF m a) (hb : LenF m b) (hc : LenF m c) : normL (a ++ c) = normL (b ++ c) ↔ normL a = normL b := by
  refine made_iff (rich_all m) ha hb (lenF_app ha hc) (lenF_app hb hc) (fun h pt hp => ?_) fun h pt hp => ?_
  · rw [wr_app, wr_app, h pt hp]
  · have := h pt hp
    rw [wr_app, wr_app] at this
    exact List.append_cancel_right this
theorem join_iff2 {m : Nat} {a b c : List Pn} (ha : LenF m a) (hb : LenF m b) (hc : LenF m c) : normL (c ++ a) = normL (c ++ b) ↔ normL a = normL b := by
  refine made_iff (rich_all m) ha hb (lenF_app hc ha) (lenF_app hc hb) (fun h pt hp => ?_) fun h pt hp => ?_
  · rw [wr_app, wr_app, h pt hp]
  · have := h pt hp
    rw [wr_app, wr_app] at this
    exact List.append_cancel_left this
def repP (t : Nat) (ps : List Pn) : List Pn := (List.replicate t ps).flatten
theorem mem_repP {ps : List Pn} : ∀ {t : Nat} {p : Pn}, p ∈ repP t ps → p ∈ ps
  | 0, _, h => by simp [repP] at h
  | t + 1, p, h => by
    unfold repP at h
    rw [List.replicate_succ, List.flatten_cons] at h
    exact (List.mem_append.mp h).elim id mem_repP
theorem wr_repP (pt : List Nat) (ps : List Pn) : ∀ t, wr pt (repP t ps) = pw (wr pt ps) t
  | 0 => rfl
  | t + 1 => by
    have := wr_repP pt ps t
    unfold repP at this ⊢
    rw [List.replicate_succ, List.flatten_cons, wr_app, this, pw_succ]
theorem pw_inj {a b : W} {t : Nat} (ht : 1 ≤ t) (h : pw a t = pw b t) : a = b := by
  obtain ⟨k, rfl⟩ : ∃ k, t = k + 1 := ⟨t - 1, by omega⟩
  have hl : a.length = b.length := by
    have := congrArg List.length h
    rw [pw_len, pw_len] at this
    exact Nat.eq_of_mul_eq_mul_right (by omega) this
  rw [pw_succ, pw_succ] at h
  exact (List.append_inj h hl).1
theorem rep_iff {m t : Nat} {a b : List Pn} (ht : 1 ≤ t) (ha : LenF m a) (hb : LenF m b) : normL (repP t a) = normL (repP t b) ↔ normL a = normL b := by
  refine made_iff (rich_all m) ha hb (fun p hp => ha p (mem_repP hp)) (fun p hp => hb p (mem_repP hp)) (fun h pt hp => ?_) fun h pt hp => ?_
  · rw [wr_repP, wr_repP, h pt hp]
  · have := h pt hp
    rw [wr_repP, wr_repP] at this
    exact pw_inj ht this
def mirP (ps : List Pn) : List Pn := ps.reverse.map fun p => (p.1.reverse, p.2)
theorem pw_rev (w : W) : ∀ k, pw w.reverse k = (pw w k).reverse
  | 0 => rfl
  | k + 1 => by
    have e : pw w (k + 1) = pw w k ++ w := by
      rw [pw_add w k 1, pw_one]
    rw [pw_succ, e, List.reverse_append, pw_rev w k]
theorem wr_mirP (pt : List Nat) : ∀ ps : List Pn, wr pt (mirP ps) = (wr pt ps).reverse
  | [] => rfl
  | p :: r => by
    have := wr_mirP pt r
    unfold mirP at this ⊢
    rw [List.reverse_cons, List.map_append, wr_app, this, wr, List.reverse_append, List.map_cons, List.map_nil, wr_one]
    congr 1
    unfold wrt
    rw [pw_rev]
theorem lenF_mir {m : Nat} {a : List Pn} (ha : LenF m a) : LenF m (mirP a) := fun p hp => by
  obtain ⟨q, hq, rfl⟩ := List.mem_map.mp hp
  exact ha q (List.mem_reverse.mp hq)
theorem mir_iff {m : Nat} {a b : List Pn} (ha : LenF m a) (hb : LenF m b) : normL (mirP a) = normL (mirP b) ↔ normL a = normL b := by
  refine made_iff (rich_all m) ha hb (lenF_mir ha) (lenF_mir hb) (fun h pt hp => ?_) fun h pt hp => ?_
  · rw [wr_mirP, wr_mirP, h pt hp]
  · have := h pt hp
    rw [wr_mirP, wr_mirP] at this
    exact List.reverse_inj.mp this
/-! ### letters replaced -/
def mapW (img : Nat → List Nat) (w : List Nat) : List Nat := (w.map img).flatten
def mapP (img : Nat → List Nat) (ps : List Pn) : List Pn := ps.map fun p => (mapW img p.1, p.2)
theorem mapW_app (img : Nat → List Nat) (a b : List Nat) : mapW img (a ++ b) = mapW img a ++ mapW img b := by
  unfold mapW
  rw [List.map_append, List.flatten_append]
theorem mapW_pw (img : Nat → List Nat) (w : List Nat) : ∀ k, mapW img (pw w k) = pw (mapW img w) k
  | 0 => rfl
  | k + 1 => by rw [pw_succ, pw_succ, mapW_app, mapW_pw img w k]
theorem wr_mapP (img : Nat → List Nat) (pt : List Nat) : ∀ ps : List Pn, wr pt (mapP img ps) = mapW img (wr pt ps)
  | [] => rfl
  | p :: r => by
    have := wr_mapP img pt r
    unfold mapP at this ⊢
    rw [List.map_cons, wr, wr, this, mapW_app]
    congr 1
    unfold wrt
    rw [mapW_pw]
theorem lenF_map {m : Nat} {a : List Pn} {img : Nat → List Nat} (ha : LenF m a) : LenF m (mapP img a) := fun p hp => by
  obtain ⟨q, hq, rfl⟩ := List.mem_map.mp hp
  exact ha q hq
/-- no word begins another one -/
structure Code (Lt : Nat → Prop) (img : Nat → List Nat) : Prop where
  ne : ∀ c, Lt c → img c ≠ []
  pre : ∀ c d, Lt c → Lt d → img c <+: img d → c = d
theorem Code.inj {Lt : Nat → Prop} {img : Nat → List Nat} (h : Code Lt img) : ∀ {a b : List Nat}, (∀ c ∈ a, Lt c) → (∀ c ∈ b, Lt c) → mapW img a = mapW img b → a = b
  | [], [], _, _, _ => rfl
  | [], d :: b, _, hb, e => by
    have e' : [] = img d ++ mapW img b := e
    exact absurd (List.append_eq_nil_iff.mp e'.symm).1 (h.ne d (hb d List.mem_cons_self))
  | c :: a, [], ha, _, e => by
    have e' : img c ++ mapW img a = [] := e
    exact absurd (List.append_eq_nil_iff.mp e').1 (h.ne c (ha c List.mem_cons_self))
  | c :: a, d :: b, ha, hb, e => by
    have e' : img c ++ mapW img a = img d ++ mapW img b := e
    have hc := ha c List.mem_cons_self
    have hd := hb d List.mem_cons_self
    have cd : c = d := by
      rcases List.append_eq_append_iff.mp e' with ⟨x, hx, _⟩ | ⟨x, hx, _⟩
      · exact h.pre c d hc hd ⟨x, hx.symm⟩
      · exact (h.pre d c hd hc ⟨x, hx.symm⟩).symm
    subst cd
    rw [h.inj (fun x hx => ha x (List.mem_cons_of_mem _ hx)) (fun x hx => hb x (List.mem_cons_of_mem _ hx)) (List.append_cancel_left e')]
theorem mem_pw {w : W} {c : Nat} : ∀ {k : Nat}, c ∈ pw w k → c ∈ w
  | 0, h => by simp [pw_zero] at h
  | k + 1, h => by
    rw [pw_succ] at h
    exact (List.mem_append.mp h).elim id mem_pw
theorem mem_wr {pt : List Nat} {c : Nat} : ∀ {ps : List Pn}, c ∈ wr pt ps → ∃ p ∈ ps, c ∈ p.1
  | [], h => by simp [wr] at h
  | p :: r, h => by
    rw [wr] at h
    rcases List.mem_append.mp h with z | z
    · exact ⟨p, List.mem_cons_self, mem_pw z⟩
    · obtain ⟨q, hq, hc⟩ := mem_wr z
      exact ⟨q, List.mem_cons_of_mem _ hq, hc⟩
theorem map_iff {m : Nat} {a b : List Pn} {Lt : Nat → Prop} {img : Nat → List Nat} (hc : Code Lt img) (la : ∀ p ∈ a, ∀ c ∈ p.1, Lt c) (lb : ∀ p ∈ b, ∀ c ∈ p.1, Lt c) (ha : LenF m a) (hb : LenF m b) :
    normL (mapP img (normL a)) = normL (mapP img (normL b)) ↔ normL a = normL b := by
  have na := (nm_normL ha).lenF
  have nb := (nm_normL hb).lenF
  refine made_iff (rich_all m) ha hb (lenF_map na) (lenF_map nb) (fun h pt hp => ?_) fun h pt hp => ?_
  · rw [wr_mapP, wr_mapP, wr_normL ha, wr_normL hb, h pt hp]
  · have e := h pt hp
    rw [wr_mapP, wr_mapP, wr_normL ha, wr_normL hb] at e
    refine hc.inj (fun c hm => ?_) (fun c hm => ?_) e
    · obtain ⟨p, hp, hcp⟩ := mem_wr hm
      exact la p hp c hcp
    · obtain ⟨p, hp, hcp⟩ := mem_wr hm
      exact lb p hp c hcp
/-! ### unknowns replaced -/
theorem rich_mul {m t b : Nat} {Sp : List Nat → Prop} (ht : 1 ≤ t) (h : ∀ pt : List Nat, pt.length = m → (∀ x ∈ pt, b ≤ x ∧ t ∣ x) → Sp pt) : Rich m Sp := by
  have ge : ∀ N, N + b ≤ t * (N + b) := fun N => Nat.le_mul_of_pos_left _ ht
  refine rich_of (fun N => ⟨List.replicate m (t * (N + b)), h _ (by simp) fun x hx => ?_, by simp, fun x hx => ?_⟩) fun N => ⟨t * (N + b), fun j K hj => ⟨(List.replicate m (t * (N + b))).set j (t * (N + b + K)), h _ (by simp) fun x hx => ?_, ⟨by simp, fun x hx => ?_⟩, fun i z hi hz => ?_, t * (N + b + K), ?_, ?_⟩⟩
  · rw [List.eq_of_mem_replicate hx]
    have := ge N
    exact ⟨by omega, Nat.dvd_mul_right _ _⟩
  · rw [List.eq_of_mem_replicate hx]
    have := ge N
    omega
  · rcases List.mem_or_eq_of_mem_set hx with w | w
    · rw [List.eq_of_mem_replicate w]
      have := ge N
      exact ⟨by omega, Nat.dvd_mul_right _ _⟩
    · rw [w]
      have := ge (N + K)
      rw [Nat.add_right_comm] at this
      exact ⟨by omega, Nat.dvd_mul_right _ _⟩
  · have g1 := ge N
    have g2 := ge (N + K)
    rw [Nat.add_right_comm] at g2
    rcases List.mem_or_eq_of_mem_set hx with w | w
    · rw [List.eq_of_mem_replicate w]; omega
    · rw [w]; omega
  · rw [List.getElem?_set_ne (Ne.symm hi)] at hz
    have := List.mem_of_getElem? hz
    rw [List.eq_of_mem_replicate this]
    exact Nat.le_refl _
  · rw [List.getElem?_set_self (by simpa using hj)]
  · have g2 := ge (N + K)
    rw [Nat.add_right_comm] at g2
    omega
end NM

set_option linter.all false
set_option maxRecDepth 100000
/-! two texts that write the same at few points write the same everywhere -/
namespace NM
open WM SP
def numW (A : Int) : W → Int
  | [] => 0
  | c :: w => ((c : Int) + 1) + A * numW A w
theorem num_app (A : Int) : ∀ u v : W, numW A (u ++ v) = numW A u + A ^ u.length * numW A v
  | [], v => by simp [numW]
  | c :: u, v => by
    rw [List.cons_append, numW, numW, num_app A u v, List.length_cons, Int.pow_succ, Int.mul_add, Int.mul_comm (A ^ u.length) A, Int.mul_assoc]
    omega
theorem num_nn {A : Int} (hA : 0 ≤ A) : ∀ w : W, 0 ≤ numW A w
  | [] => Int.le_refl _
  | c :: w => by
    have := Int.mul_nonneg hA (num_nn hA w)
    rw [numW]
    omega
theorem num_inj {A : Int} : ∀ u v : W, (∀ c ∈ u, (c : Int) + 1 < A) → (∀ c ∈ v, (c : Int) + 1 < A) → numW A u = numW A v → u = v
  | [], [], _, _, _ => rfl
  | [], d :: v, _, hv, e => by
    have h := hv d List.mem_cons_self
    have := Int.mul_nonneg (show 0 ≤ A by omega) (num_nn (show 0 ≤ A by omega) v)
    rw [numW, numW] at e
    omega
  | c :: u, [], hu, _, e => by
    have h := hu c List.mem_cons_self
    have := Int.mul_nonneg (show 0 ≤ A by omega) (num_nn (show 0 ≤ A by omega) u)
    rw [numW, numW] at e
    omega
  | c :: u, d :: v, hu, hv, e => by
    have h := hu c List.mem_cons_self
    have h' := hv d List.mem_cons_self
    rw [numW, numW] at e
    have e1 : (((c : Int) + 1) + A * numW A u) % A = (((d : Int) + 1) + A * numW A v) % A := by rw [e]
    rw [Int.add_mul_emod_self_left, Int.add_mul_emod_self_left, Int.emod_eq_of_lt (by omega) h, Int.emod_eq_of_lt (by omega) h'] at e1
    have cd : c = d := by omega
    subst cd
    have e2 : A * numW A u = A * numW A v := by omega
    have e3 := Int.eq_of_mul_eq_mul_left (show A ≠ 0 by omega) e2
    rw [num_inj u v (fun x hx => hu x (List.mem_cons_of_mem _ hx)) (fun x hx => hv x (List.mem_cons_of_mem _ hx)) e3]
theorem num_pw (A : Int) (u : W) : ∀ k, (A ^ u.length - 1) * numW A (pw u k) = numW A u * (A ^ (u.length * k) - 1)
  | 0 => by simp [pw_zero, numW]
  | k + 1 => by
    have ih := num_pw A u k
    rw [pw_succ, num_app, Nat.mul_succ, Int.pow_add]
    have e : (A ^ u.length - 1) * (numW A u + A ^ u.length * numW A (pw u k)) = (A ^ u.length - 1) * numW A u + A ^ u.length * ((A ^ u.length - 1) * numW A (pw u k)) := by
      rw [Int.mul_add, Int.mul_left_comm]
    rw [e, ih]
    generalize A ^ u.length = q
    generalize A ^ (u.length * k) = r
    generalize numW A u = n
    rw [Int.sub_mul, Int.mul_sub, Int.mul_sub, Int.mul_sub, Int.one_mul, Int.mul_one, ← Int.mul_assoc, Int.mul_comm q n, Int.mul_assoc, Int.mul_comm q r]
    omega
theorem ev_char (A : Int) (k : Nat) : ∀ (fs pt : List Nat), fs.length = pt.length → A ^ (k * dot fs pt) = ev (fs.map fun a => A ^ (k * a)) pt
  | [], [], _ => by simp [dot, ev]
  | [], _ :: _, h => by simp at h
  | _ :: _, [], h => by simp at h
  | x :: fs, y :: pt, h => by
    have ih := ev_char A k fs pt (by simpa using h)
    rw [dot, List.map_cons, ev, ← ih, Nat.mul_add, Int.pow_add, ← Nat.mul_assoc, Int.pow_mul]
def mulB (B b : List Int) : List Int := List.zipWith (fun x y => x * y) B b
theorem ev_mul : ∀ (B b : List Int) (pt : List Nat), B.length = pt.length → b.length = pt.length → ev (mulB B b) pt = ev B pt * ev b pt
  | [], [], [], _, _ => by simp [mulB, ev]
  | x :: B, y :: b, z :: pt, h, h' => by
    have ih := ev_mul B b pt (by simpa using h) (by simpa using h')
    show (x * y) ^ z * ev (mulB B b) pt = x ^ z * ev B pt * (y ^ z * ev b pt)
    rw [ih, Int.mul_pow]
    generalize x ^ z = p
    generalize y ^ z = r
    generalize ev B pt = s
    generalize ev b pt = t
    rw [Int.mul_assoc, Int.mul_assoc, Int.mul_left_comm r s t]
  | [], _ :: _, [], _, h => by simp at h
  | _ :: _, _, [], h, _ => by simp at h
  | [], _, _ :: _, h, _ => by simp at h
  | _ :: _, [], _ :: _, _, h => by simp at h
theorem ev_one : ∀ (m : Nat) (pt : List Nat), ev (List.replicate m 1) pt = 1
  | 0, _ => by simp [ev]
  | m + 1, [] => by simp [ev, List.replicate_succ]
  | m + 1, x :: pt => by
    rw [List.replicate_succ, ev, ev_one m pt, Int.one_pow]
    rfl
/-- terms times a number and an exponential -/
def mulT (k : Int) (B : List Int) (T : List Tm) : List Tm := T.map fun t => (k * t.1, mulB B t.2)
theorem vl_mulT (k : Int) {B : List Int} {pt : List Nat} (hB : B.length = pt.length) : ∀ T : List Tm, (∀ t ∈ T, t.2.length = pt.length) → vl (mulT k B T) pt = k * ev B pt * vl T pt
  | [], _ => by simp [mulT, vl]
  | t :: T, h => by
    have ih := vl_mulT k hB T fun s hs => h s (List.mem_cons_of_mem _ hs)
    show k * t.1 * ev (mulB B t.2) pt + vl (mulT k B T) pt = _
    rw [ih, ev_mul B t.2 pt hB (h t List.mem_cons_self), vl, Int.mul_add]
    congr 1
    generalize ev B pt = s
    generalize ev t.2 pt = r
    rw [Int.mul_assoc, Int.mul_assoc, Int.mul_left_comm t.1 s r]
def scT (k : Int) (T : List Tm) : List Tm := T.map fun t => (k * t.1, t.2)
theorem vl_scT (k : Int) (pt : List Nat) : ∀ T : List Tm, vl (scT k T) pt = k * vl T pt
  | [] => by simp [scT, vl]
  | t :: T => by
    have ih := vl_scT k pt T
    show k * t.1 * ev t.2 pt + vl (scT k T) pt = _
    rw [ih, vl, Int.mul_add, Int.mul_assoc]
theorem vl_app (pt : List Nat) : ∀ S T : List Tm, vl (S ++ T) pt = vl S pt + vl T pt
  | [], T => by simp [vl]
  | s :: S, T => by
    rw [List.cons_append, vl, vl, vl_app pt S T]
    omega
theorem len_mulB {B b : List Int} (h : B.length = b.length) : (mulB B b).length = b.length := by
  unfold mulB
  rw [List.length_zipWith]
  omega
/-- how many pieces have an unknown -/
def opn (ps : List Pn) : Nat := (ps.filter fun p => isOpen p.2).length
theorem opn_cons (p : Pn) (r : List Pn) : opn (p :: r) = (if isOpen p.2 = true then 1 else 0) + opn r := by
  unfold opn
  rw [List.filter_cons]
  by_cases h : isOpen p.2 = true
  · rw [if_pos h, if_pos h, List.length_cons]
    omega
  · rw [if_neg h, if_neg h]
    omega
structure Rp (A : Int) (m : Nat) (ps : List Pn) (E c : Int) (T : List Tm) : Prop where
  ne : E ≠ 0
  lens : ∀ t ∈ T, t.2.length = m
  few : T.length ≤ opn ps
  val : ∀ pt : List Nat, pt.length = m → E * numW A (wr pt ps) = c + vl T pt
theorem pow_gt {A : Int} (hA : 2 ≤ A) : ∀ k, 0 < k → A ^ k - 1 ≠ 0
  | k + 1, _ => by
    have h1 : 0 < A ^ k := Int.pow_pos (by omega)
    have h2 : A ^ k * 2 ≤ A ^ k * A := Int.mul_le_mul_of_nonneg_left hA (by omega)
    rw [Int.pow_succ]
    omega
theorem val_closed {f : F} (h : isOpen f = false) (pt : List Nat) : valF f pt = f.headD 0 := by
  unfold valF
  rw [dot_closed (fun x hx => by
    have := List.any_eq_false.mp h x hx
    simpa using this)]
  rfl
theorem rp_all {A : Int} (hA : 2 ≤ A) {m : Nat} : ∀ ps : List Pn, LenF m ps → ∃ E c T, Rp A m ps E c T
  | [], _ => ⟨1, 0, [], by decide, fun t h => absurd h List.not_mem_nil, Nat.zero_le _, fun pt _ => by simp [wr, numW, vl]⟩
  | p :: r, h => by
    obtain ⟨E, c, T, ne, lens, few, val⟩ := rp_all hA r fun q hq => h q (List.mem_cons_of_mem _ hq)
    have hl := h p List.mem_cons_self
    obtain ⟨u, f⟩ := p
    have hl : f.length = m + 1 := hl
    cases ho : isOpen f with
    | false =>
      have e0 := val_closed ho
      refine ⟨E, E * numW A (pw u (f.headD 0)) + A ^ (pw u (f.headD 0)).length * c, scT (A ^ (pw u (f.headD 0)).length) T, ne, fun t ht => ?_, ?_, fun pt hp => ?_⟩
      · obtain ⟨s, hs, rfl⟩ := List.mem_map.mp ht
        exact lens s hs
      · unfold scT
        rw [List.length_map, opn_cons]
        omega
      · have v := val pt hp
        rw [wr, num_app, vl_scT]
        have ew : wrt pt (u, f) = pw u (f.headD 0) := by
          unfold wrt
          rw [e0]
        rw [ew, Int.mul_add, Int.mul_left_comm, v, Int.mul_add]
        omega
    | true =>
      by_cases hu : u = []
      · refine ⟨E, c, T, ne, lens, by rw [opn_cons]; omega, fun pt hp => ?_⟩
        have ew : wrt pt (u, f) = [] := by
          unfold wrt
          show pw u _ = []
          rw [hu, pw_nil]
        rw [wr, ew]
        exact val pt hp
      · have u0 := List.length_pos_iff.mpr hu
        have qne := pow_gt hA u.length u0
        refine ⟨(A ^ u.length - 1) * E, -(numW A u * E), (numW A u * E * A ^ (u.length * f.headD 0) + (A ^ u.length - 1) * A ^ (u.length * f.headD 0) * c, f.tail.map fun a => A ^ (u.length * a)) :: mulT ((A ^ u.length - 1) * A ^ (u.length * f.headD 0)) (f.tail.map fun a => A ^ (u.length * a)) T,
          fun z => (Int.mul_eq_zero.mp z).elim qne ne, fun t ht => ?_, ?_, fun pt hp => ?_⟩
        · rcases List.mem_cons.mp ht with rfl | ht
          · show (f.tail.map _).length = m
            rw [List.length_map, List.length_tail, hl]
            rfl
          · obtain ⟨s, hs, rfl⟩ := List.mem_map.mp ht
            show (mulB _ s.2).length = m
            rw [len_mulB (by rw [List.length_map, List.length_tail, hl, lens s hs]; rfl)]
            exact lens s hs
        · rw [List.length_cons, opn_cons]
          have : isOpen ((u, f) : Pn).2 = true := ho
          rw [if_pos this]
          unfold mulT
          rw [List.length_map]
          omega
        · have v := val pt hp
          have lt : f.tail.length = pt.length := by rw [List.length_tail, hl, hp]; rfl
          have n := num_pw A u (valF f pt)
          have ew : wrt pt (u, f) = pw u (valF f pt) := rfl
          have el : (pw u (valF f pt)).length = u.length * valF f pt := pw_len _ _
          have ex : A ^ (u.length * valF f pt) = A ^ (u.length * f.headD 0) * ev (f.tail.map fun a => A ^ (u.length * a)) pt := by
            unfold valF
            rw [Nat.mul_add, Int.pow_add, ev_char A u.length f.tail pt lt]
          rw [wr, ew, num_app, el, vl, vl_mulT _ (by rw [List.length_map]; exact lt) T fun t ht => by rw [lens t ht, hp]]
          show (A ^ u.length - 1) * E * _ = -(numW A u * E) + ((numW A u * E * A ^ (u.length * f.headD 0) + (A ^ u.length - 1) * A ^ (u.length * f.headD 0) * c) * ev (f.tail.map fun a => A ^ (u.length * a)) pt + _)
          have lhs : (A ^ u.length - 1) * E * (numW A (pw u (valF f pt)) + A ^ (u.length * valF f pt) * numW A (wr pt r)) = E * ((A ^ u.length - 1) * numW A (pw u (valF f pt))) + (A ^ u.length - 1) * (A ^ (u.length * valF f pt) * (E * numW A (wr pt r))) := by
            generalize A ^ u.length - 1 = q
            generalize A ^ (u.length * valF f pt) = y
            generalize numW A (pw u (valF f pt)) = n1
            generalize numW A (wr pt r) = n2
            rw [Int.mul_add]
            congr 1
            · rw [Int.mul_comm q E, Int.mul_assoc]
            · rw [Int.mul_assoc, Int.mul_left_comm E y n2]
          rw [lhs, n, v, ex]
          generalize A ^ u.length - 1 = q
          generalize A ^ (u.length * f.headD 0) = y
          generalize ev (f.tail.map fun a => A ^ (u.length * a)) pt = z
          generalize numW A u = n1
          generalize vl T pt = t1
          have r1 : E * (n1 * (y * z - 1)) = n1 * E * y * z - n1 * E := by
            rw [Int.mul_sub, Int.mul_sub, Int.mul_one, Int.mul_comm E n1]
            congr 1
            rw [Int.mul_left_comm E n1, ← Int.mul_assoc n1 E, ← Int.mul_assoc (n1 * E)]
          have r2 : q * (y * z * (c + t1)) = q * y * c * z + q * y * z * t1 := by
            rw [Int.mul_add, Int.mul_add]
            congr 1
            · rw [← Int.mul_assoc q (y * z) c, ← Int.mul_assoc q y z, Int.mul_assoc (q * y) z c, Int.mul_comm z c, ← Int.mul_assoc]
            · rw [← Int.mul_assoc q (y * z) t1, ← Int.mul_assoc q y z]
          rw [r1, r2, Int.add_mul]
          omega
/-- a number above all letters -/
def topL (ps : List Pn) : Nat := (ps.map fun p => p.1.sum).sum
theorem le_top : ∀ {ps : List Pn} {p : Pn} {c : Nat}, p ∈ ps → c ∈ p.1 → c ≤ topL ps
  | q :: r, p, c, h, hc => by
    have e : topL (q :: r) = q.1.sum + topL r := by simp [topL]
    rw [e]
    rcases List.mem_cons.mp h with rfl | h
    · have := le_sumN hc
      omega
    · have := le_top h hc
      omega
/-- the same near the axes, the same everywhere -/
theorem cross_same {m : Nat} {a b : List Pn} (ha : LenF m a) (hb : LenF m b) (h : ∀ pt : List Nat, pt.length = m → crs pt ≤ 1 + opn a + opn b → wr pt a = wr pt b) : ∀ pt : List Nat, pt.length = m → wr pt a = wr pt b := fun pt hp => by
  have hA : (2 : Int) ≤ ((topL a + topL b + 2 : Nat) : Int) := by omega
  obtain ⟨E, c, T, ne, lens, few, val⟩ := rp_all hA a ha
  obtain ⟨E', c', T', ne', lens', few', val'⟩ := rp_all hA b hb
  have la : ∀ qt : List Nat, ∀ x ∈ wr qt a, (x : Int) + 1 < ((topL a + topL b + 2 : Nat) : Int) := fun qt x hx => by
    obtain ⟨p, hp, hc⟩ := mem_wr hx
    have := le_top hp hc
    omega
  have lb : ∀ qt : List Nat, ∀ x ∈ wr qt b, (x : Int) + 1 < ((topL a + topL b + 2 : Nat) : Int) := fun qt x hx => by
    obtain ⟨p, hp, hc⟩ := mem_wr hx
    have := le_top hp hc
    omega
  generalize ((topL a + topL b + 2 : Nat) : Int) = A at *
  refine Classical.byContradiction fun d => ?_
  have key : ∀ qt : List Nat, qt.length = m → vl ((E' * c - E * c', List.replicate m 1) :: (scT E' T ++ scT (-E) T')) qt = E * E' * (numW A (wr qt a) - numW A (wr qt b)) := fun qt hq => by
    have v := val qt hq
    have v' := val' qt hq
    rw [vl, vl_app, vl_scT, vl_scT]
    show (E' * c - E * c') * ev (List.replicate m 1) qt + _ = _
    rw [ev_one, Int.mul_one]
    have t1 : vl T qt = E * numW A (wr qt a) - c := by omega
    have t2 : vl T' qt = E' * numW A (wr qt b) - c' := by omega
    rw [t1, t2, Int.mul_sub, Int.mul_sub, Int.mul_sub, Int.neg_mul, Int.neg_mul]
    have e1 : E' * (E * numW A (wr qt a)) = E * E' * numW A (wr qt a) := by rw [← Int.mul_assoc, Int.mul_comm E' E]
    have e2 : E * (E' * numW A (wr qt b)) = E * E' * numW A (wr qt b) := by rw [Int.mul_assoc]
    omega
  have nz : vl ((E' * c - E * c', List.replicate m 1) :: (scT E' T ++ scT (-E) T')) pt ≠ 0 := fun z => by
    rw [key pt hp] at z
    rcases Int.mul_eq_zero.mp z with z | z
    · exact (Int.mul_eq_zero.mp z).elim ne ne'
    · exact d (num_inj _ _ (la pt) (lb pt) (by omega))
  obtain ⟨qt, hq, cq, nq⟩ := sparse m _ (fun t ht => by
    rcases List.mem_cons.mp ht with rfl | ht
    · simp
    · rcases List.mem_append.mp ht with ht | ht
      · obtain ⟨s, hs, rfl⟩ := List.mem_map.mp ht
        exact lens s hs
      · obtain ⟨s, hs, rfl⟩ := List.mem_map.mp ht
        exact lens' s hs) pt hp nz
  refine nq ?_
  rw [key qt hq, h qt hq ?_, Int.sub_self, Int.mul_zero]
  rw [List.length_cons, List.length_append] at cq
  unfold scT at cq
  rw [List.length_map, List.length_map] at cq
  omega
theorem cross_iff {m : Nat} {a b : List Pn} (ha : LenF m a) (hb : LenF m b) {k : Nat} (hk : 1 + opn a + opn b ≤ k) : normL a = normL b ↔ ∀ pt : List Nat, pt.length = m → crs pt ≤ k → wr pt a = wr pt b := by
  rw [norm_iff ha hb]
  exact ⟨fun h pt hp _ => h pt hp, fun h => cross_same ha hb fun pt hp hc => h pt hp (Nat.le_trans hc hk)⟩
end NM

set_option linter.all false
set_option maxRecDepth 100000
/-! two texts of one unknown that differ write the same word at no more counts than they have powers -/
namespace SP
def sv : List (Int × Int) → Nat → Int
  | [], _ => 0
  | t :: T, x => t.1 * t.2 ^ x + sv T x
def Alt : (Nat → Int) → List Nat → Prop
  | _, [] => True
  | h, y :: r => 0 ≤ h y ∧ Alt (fun x => -h x) r
theorem rolle {b : Int} (hb : 0 < b) (h : Nat → Int) (y : Nat) : ∀ d, 0 ≤ h y → h (y + d + 1) ≤ 0 → ∃ w, y ≤ w ∧ w < y + d + 1 ∧ h (w + 1) - b * h w ≤ 0 := fun d h0 h1 => by
  refine Classical.byContradiction fun no => ?_
  have up : ∀ e, e ≤ d → 0 < h (y + e + 1) := fun e => by
    induction e with
    | zero =>
      intro _
      refine Classical.byContradiction fun z => no ⟨y, Nat.le_refl _, by omega, ?_⟩
      have := Int.mul_nonneg (Int.le_of_lt hb) h0
      have z' : ¬ 0 < h (y + 1) := z
      omega
    | succ e ih =>
      intro le
      have i := ih (by omega)
      refine Classical.byContradiction fun z => no ⟨y + e + 1, by omega, by omega, ?_⟩
      have := Int.mul_pos hb i
      have z' : ¬ 0 < h (y + e + 1 + 1) := z
      omega
  have := up d (Nat.le_refl _)
  omega
theorem alt_step {b : Int} (hb : 0 < b) : ∀ (ys : List Nat) (y : Nat) (h : Nat → Int), Alt h (y :: ys) → (y :: ys).Pairwise (· < ·) → ∃ ws : List Nat, ws.length = ys.length ∧ ws.Pairwise (· < ·) ∧ (∀ w ∈ ws, y ≤ w) ∧ Alt (fun x => -(h (x + 1) - b * h x)) ws
  | [], _, _, _, _ => ⟨[], rfl, .nil, fun w hw => absurd hw List.not_mem_nil, trivial⟩
  | y' :: r, y, h, a, p => by
    obtain ⟨p1, p2⟩ := List.pairwise_cons.mp p
    have lt := p1 y' List.mem_cons_self
    obtain ⟨ws, e, pw, ge, al⟩ := alt_step hb r y' (fun x => -h x) a.2 p2
    have a1 : 0 ≤ -h y' := a.2.1
    obtain ⟨d, hd⟩ : ∃ d, y' = y + d + 1 := ⟨y' - y - 1, by omega⟩
    obtain ⟨w, w1, w2, w3⟩ := rolle hb h y d a.1 (by rw [← hd]; omega)
    refine ⟨w :: ws, by rw [List.length_cons, List.length_cons, e], List.pairwise_cons.mpr ⟨fun z hz => ?_, pw⟩, fun z hz => ?_, ?_, ?_⟩
    · have := ge z hz
      omega
    · rcases List.mem_cons.mp hz with rfl | hz
      · exact w1
      · have := ge z hz
        omega
    · show 0 ≤ -(h (w + 1) - b * h w)
      omega
    · have ef : (fun x => -(-(h (x + 1) - b * h x))) = fun x => -(-h (x + 1) - b * -h x) := by
        funext x
        rw [Int.mul_neg]
        omega
      show Alt (fun x => -(-(h (x + 1) - b * h x))) ws
      rw [ef]
      exact al
set_option maxHeartbeats 2000000 in
theorem alt_few : ∀ (T : List (Int × Int)) (ys : List Nat), (∀ t ∈ T, 0 < t.2) → ys.Pairwise (· < ·) → Alt (sv T) ys → T.length < ys.length → ∀ x, sv T x = 0
  | [], _, _, _, _, _, _ => rfl
  | (c, b) :: T, ys, pos, p, a, l, x => by
    have hb : 0 < b := pos (c, b) List.mem_cons_self
    match ys, p, a, l with
    | [], _, _, l => exact absurd l (Nat.not_lt_zero _)
    | [_], _, _, l => simp at l
    | y :: y' :: r, p, a, l =>
    obtain ⟨ws, e, pw, _, al⟩ := alt_step hb (y' :: r) y _ a p
    have sv2 : ∀ S : List (Int × Int), ∀ x, sv (S.map fun t => (-(t.1 * (t.2 - b)), t.2)) x = -(sv S (x + 1) - b * sv S x) := fun S => by
      induction S with
      | nil => intro x; simp [sv]
      | cons t S ih =>
        intro x
        rw [List.map_cons, sv, sv, sv, ih x, Int.pow_succ]
        show -(t.1 * (t.2 - b)) * t.2 ^ x + _ = _
        generalize t.2 ^ x = q
        generalize t.1 = c1
        generalize t.2 = b1
        generalize sv S (x + 1) = s1
        generalize sv S x = s2
        rw [Int.mul_add, Int.neg_mul, Int.mul_assoc, Int.sub_mul, Int.mul_sub, Int.mul_comm q b1, Int.mul_left_comm b c1 q]
        omega
    have ef : (fun x => -(sv ((c, b) :: T) (x + 1) - b * sv ((c, b) :: T) x)) = sv (T.map fun t => (-(t.1 * (t.2 - b)), t.2)) := by
      funext x
      rw [sv2 T x, sv, sv, Int.pow_succ]
      show -(c * (b ^ x * b) + _ - b * (c * b ^ x + _)) = _
      rw [Int.mul_add, Int.mul_left_comm b c, Int.mul_comm b (b ^ x)]
      omega
    rw [ef] at al
    have z := alt_few (T.map fun t => (-(t.1 * (t.2 - b)), t.2)) ws (fun t ht => by
      obtain ⟨s, hs, rfl⟩ := List.mem_map.mp ht
      exact pos s (List.mem_cons_of_mem _ hs)) pw al (by rw [List.length_map, e]; simp only [List.length_cons] at l ⊢; omega)
    have st : ∀ x, sv ((c, b) :: T) (x + 1) = b * sv ((c, b) :: T) x := fun x => by
      have := congrFun ef x
      rw [z x] at this
      have this : -(sv ((c, b) :: T) (x + 1) - b * sv ((c, b) :: T) x) = 0 := this
      omega
    have al2 : ∀ x, sv ((c, b) :: T) x = b ^ x * sv ((c, b) :: T) 0 := fun x => by
      induction x with
      | zero => rw [Int.pow_zero, Int.one_mul]
      | succ x ih => rw [st x, ih, Int.pow_succ, ← Int.mul_assoc, Int.mul_comm b (b ^ x)]
    have a1 : 0 ≤ sv ((c, b) :: T) y := a.1
    have a2 : 0 ≤ -sv ((c, b) :: T) y' := a.2.1
    rw [al2] at a1 a2
    have p1 : 0 < b ^ y := Int.pow_pos hb
    have p2 : 0 < b ^ y' := Int.pow_pos hb
    rw [al2 x]
    generalize sv ((c, b) :: T) 0 = s at *
    have s0 : s = 0 := by
      by_cases lt : s < 0
      · have := Int.mul_neg_of_pos_of_neg p1 lt
        omega
      · by_cases gt : 0 < s
        · have := Int.mul_pos p2 gt
          omega
        · omega
    rw [s0, Int.mul_zero]
termination_by T => T.length
decreasing_by simp
theorem alt_zeros : ∀ (zs : List Nat) (y : Nat) (h : Nat → Int), (∀ z ∈ zs, h z = 0) → Alt h (zs ++ [y]) ∨ Alt (fun x => -h x) (zs ++ [y])
  | [], y, h, _ => by
    by_cases c : 0 ≤ h y
    · exact .inl ⟨c, trivial⟩
    · exact .inr ⟨by show 0 ≤ -h y; omega, trivial⟩
  | z :: zs, y, h, hz => by
    have h0 := hz z List.mem_cons_self
    have ih := alt_zeros zs y h fun w hw => hz w (List.mem_cons_of_mem _ hw)
    have nn : (fun x => -(-h x)) = h := by funext x; omega
    rcases ih with ih | ih
    · refine .inr ⟨by show 0 ≤ -h z; omega, ?_⟩
      show Alt (fun x => -(-h x)) (zs ++ [y])
      rw [nn]
      exact ih
    · exact .inl ⟨by omega, ih⟩
theorem zeros_few {T : List (Int × Int)} (pos : ∀ t ∈ T, 0 < t.2) {zs : List Nat} (p : zs.Pairwise (· < ·)) (hz : ∀ z ∈ zs, sv T z = 0) (l : T.length ≤ zs.length) : ∀ x, sv T x = 0 := fun x => by
  have le : ∀ z ∈ zs, z < zs.sum + 1 := fun z hz => by
    have := NM.le_sumN hz
    omega
  have p2 : (zs ++ [zs.sum + 1]).Pairwise (· < ·) := List.pairwise_append.mpr ⟨p, List.pairwise_singleton _ _, fun a ha b hb => by
    rw [List.mem_singleton.mp hb]
    exact le a ha⟩
  have l2 : ∀ S : List (Int × Int), S.length = T.length → S.length < (zs ++ [zs.sum + 1]).length := fun S e => by
    rw [List.length_append, List.length_singleton]
    omega
  rcases alt_zeros zs (zs.sum + 1) (sv T) hz with a | a
  · exact alt_few T _ pos p2 a (l2 T rfl) x
  · have ng : ∀ S : List (Int × Int), (fun x => -sv S x) = sv (S.map fun t => (-t.1, t.2)) := fun S => by
      funext y
      induction S with
      | nil => simp [sv]
      | cons t S ih =>
        rw [List.map_cons, sv, sv, ← ih]
        show -(t.1 * t.2 ^ y + sv S y) = -t.1 * t.2 ^ y + -sv S y
        rw [Int.neg_mul]
        omega
    rw [ng] at a
    have := alt_few _ _ (fun t ht => by
      obtain ⟨s, hs, rfl⟩ := List.mem_map.mp ht
      exact pos s hs) p2 a (l2 _ (List.length_map ..)) x
    rw [← congrFun (ng T) x] at this
    have this : -sv T x = 0 := this
    omega
end SP
namespace NM
open WM SP
/-- one unknown: the number of a word as a sum of few powers -/
structure R1 (A : Int) (ps : List Pn) (E c : Int) (T : List (Int × Int)) : Prop where
  ne : E ≠ 0
  pos : ∀ t ∈ T, 0 < t.2
  few : T.length ≤ opn ps
  val : ∀ x : Nat, E * numW A (wr [x] ps) = c + sv T x
def scV (k B : Int) (T : List (Int × Int)) : List (Int × Int) := T.map fun t => (k * t.1, B * t.2)
theorem sv_scV (k B : Int) (x : Nat) : ∀ T, sv (scV k B T) x = k * B ^ x * sv T x
  | [] => by simp [scV, sv]
  | t :: T => by
    have ih := sv_scV k B x T
    unfold scV at ih ⊢
    rw [List.map_cons, sv, sv, ih, Int.mul_add]
    congr 1
    show k * t.1 * (B * t.2) ^ x = _
    rw [Int.mul_pow, Int.mul_assoc k (B ^ x), Int.mul_assoc k t.1, Int.mul_left_comm t.1 (B ^ x)]
theorem sv_app (x : Nat) : ∀ S T : List (Int × Int), sv (S ++ T) x = sv S x + sv T x
  | [], T => by simp [sv]
  | s :: S, T => by
    rw [List.cons_append, sv, sv, sv_app x S T]
    omega
theorem r1_all {A : Int} (hA : 2 ≤ A) : ∀ ps : List Pn, LenF 1 ps → ∃ E c T, R1 A ps E c T
  | [], _ => ⟨1, 0, [], by decide, fun t h => absurd h List.not_mem_nil, Nat.zero_le _, fun x => by simp [wr, numW, sv]⟩
  | p :: r, h => by
    obtain ⟨E, c, T, ne, pos, few, val⟩ := r1_all hA r fun q hq => h q (List.mem_cons_of_mem _ hq)
    have hl := h p List.mem_cons_self
    obtain ⟨u, f⟩ := p
    have hl : f.length = 1 + 1 := hl
    have A0 : ∀ k : Nat, 0 < A ^ k := fun k => Int.pow_pos (by omega)
    cases ho : isOpen f with
    | false =>
      have e0 := val_closed ho
      refine ⟨E, E * numW A (pw u (f.headD 0)) + A ^ (pw u (f.headD 0)).length * c, scV (A ^ (pw u (f.headD 0)).length) 1 T, ne, fun t ht => ?_, ?_, fun x => ?_⟩
      · obtain ⟨s, hs, rfl⟩ := List.mem_map.mp ht
        have := pos s hs
        show 0 < 1 * s.2
        omega
      · unfold scV
        rw [List.length_map, opn_cons]
        omega
      · have v := val x
        rw [wr, num_app, sv_scV]
        have ew : wrt [x] (u, f) = pw u (f.headD 0) := by
          unfold wrt
          rw [e0]
        rw [ew, Int.mul_add, Int.mul_left_comm, v, Int.mul_add, Int.one_pow, Int.mul_one]
        omega
    | true =>
      by_cases hu : u = []
      · refine ⟨E, c, T, ne, pos, by rw [opn_cons]; omega, fun x => ?_⟩
        have ew : wrt [x] (u, f) = [] := by
          unfold wrt
          show pw u _ = []
          rw [hu, pw_nil]
        rw [wr, ew]
        exact val x
      · have u0 := List.length_pos_iff.mpr hu
        have qne := pow_gt hA u.length u0
        obtain ⟨a, n, rfl⟩ : ∃ a n, f = [a, n] := by
          match f, hl with
          | [a, n], _ => exact ⟨a, n, rfl⟩
        refine ⟨(A ^ u.length - 1) * E, -(numW A u * E), (numW A u * E * A ^ (u.length * a) + (A ^ u.length - 1) * A ^ (u.length * a) * c, A ^ (u.length * n)) :: scV ((A ^ u.length - 1) * A ^ (u.length * a)) (A ^ (u.length * n)) T,
          fun z => (Int.mul_eq_zero.mp z).elim qne ne, fun t ht => ?_, ?_, fun x => ?_⟩
        · rcases List.mem_cons.mp ht with rfl | ht
          · exact A0 _
          · obtain ⟨s, hs, rfl⟩ := List.mem_map.mp ht
            exact Int.mul_pos (A0 _) (pos s hs)
        · rw [List.length_cons, opn_cons]
          have : isOpen ((u, [a, n]) : Pn).2 = true := ho
          rw [if_pos this]
          unfold scV
          rw [List.length_map]
          omega
        · have v := val x
          have nn := num_pw A u (a + n * x)
          have ew : wrt [x] (u, [a, n]) = pw u (a + n * x) := by
            show pw u (a + (n * x + 0)) = _
            rw [Nat.add_zero]
          have el : (pw u (a + n * x)).length = u.length * (a + n * x) := pw_len _ _
          have ex : A ^ (u.length * (a + n * x)) = A ^ (u.length * a) * (A ^ (u.length * n)) ^ x := by
            rw [Nat.mul_add, Int.pow_add, ← Nat.mul_assoc, show A ^ (u.length * n * x) = (A ^ (u.length * n)) ^ x from Int.pow_mul ..]
          rw [wr, ew, num_app, el, sv, sv_scV]
          show (A ^ u.length - 1) * E * _ = -(numW A u * E) + ((numW A u * E * A ^ (u.length * a) + (A ^ u.length - 1) * A ^ (u.length * a) * c) * (A ^ (u.length * n)) ^ x + _)
          have lhs : (A ^ u.length - 1) * E * (numW A (pw u (a + n * x)) + A ^ (u.length * (a + n * x)) * numW A (wr [x] r)) = E * ((A ^ u.length - 1) * numW A (pw u (a + n * x))) + (A ^ u.length - 1) * (A ^ (u.length * (a + n * x)) * (E * numW A (wr [x] r))) := by
            generalize A ^ u.length - 1 = q
            generalize A ^ (u.length * (a + n * x)) = y
            generalize numW A (pw u (a + n * x)) = n1
            generalize numW A (wr [x] r) = n2
            rw [Int.mul_add]
            congr 1
            · rw [Int.mul_comm q E, Int.mul_assoc]
            · rw [Int.mul_assoc, Int.mul_left_comm E y n2]
          rw [lhs, nn, v, ex]
          generalize A ^ u.length - 1 = q
          generalize A ^ (u.length * a) = y
          generalize (A ^ (u.length * n)) ^ x = z
          generalize numW A u = n1
          generalize sv T x = t1
          have r1 : E * (n1 * (y * z - 1)) = n1 * E * y * z - n1 * E := by
            rw [Int.mul_sub, Int.mul_sub, Int.mul_one, Int.mul_comm E n1]
            congr 1
            rw [Int.mul_left_comm E n1, ← Int.mul_assoc n1 E, ← Int.mul_assoc (n1 * E)]
          have r2 : q * (y * z * (c + t1)) = q * y * c * z + q * y * z * t1 := by
            rw [Int.mul_add, Int.mul_add]
            congr 1
            · rw [← Int.mul_assoc q (y * z) c, ← Int.mul_assoc q y z, Int.mul_assoc (q * y) z c, Int.mul_comm z c, ← Int.mul_assoc]
            · rw [← Int.mul_assoc q (y * z) t1, ← Int.mul_assoc q y z]
          rw [r1, r2, Int.add_mul]
          omega
/-- that many counts at which both write the same make them one -/
theorem agree_few {a b : List Pn} (ha : LenF 1 a) (hb : LenF 1 b) {zs : List Nat} (p : zs.Pairwise (· < ·)) (hz : ∀ z ∈ zs, wr [z] a = wr [z] b) (l : 1 + opn a + opn b ≤ zs.length) : normL a = normL b := by
  have hA : (2 : Int) ≤ ((topL a + topL b + 2 : Nat) : Int) := by omega
  obtain ⟨E, c, T, ne, pos, few, val⟩ := r1_all hA a ha
  obtain ⟨E', c', T', ne', pos', few', val'⟩ := r1_all hA b hb
  have la : ∀ qt : List Nat, ∀ x ∈ wr qt a, (x : Int) + 1 < ((topL a + topL b + 2 : Nat) : Int) := fun qt x hx => by
    obtain ⟨p, hp, hc⟩ := mem_wr hx
    have := le_top hp hc
    omega
  have lb : ∀ qt : List Nat, ∀ x ∈ wr qt b, (x : Int) + 1 < ((topL a + topL b + 2 : Nat) : Int) := fun qt x hx => by
    obtain ⟨p, hp, hc⟩ := mem_wr hx
    have := le_top hp hc
    omega
  generalize ((topL a + topL b + 2 : Nat) : Int) = A at *
  have key : ∀ x : Nat, sv ((E' * c - E * c', 1) :: (scV E' 1 T ++ scV (-E) 1 T')) x = E * E' * (numW A (wr [x] a) - numW A (wr [x] b)) := fun x => by
    have v := val x
    have v' := val' x
    rw [sv, sv_app, sv_scV, sv_scV]
    show (E' * c - E * c') * 1 ^ x + _ = _
    rw [Int.one_pow, Int.mul_one, Int.mul_one, Int.mul_one]
    have t1 : sv T x = E * numW A (wr [x] a) - c := by omega
    have t2 : sv T' x = E' * numW A (wr [x] b) - c' := by omega
    rw [t1, t2, Int.mul_sub, Int.mul_sub, Int.mul_sub, Int.neg_mul, Int.neg_mul]
    have e1 : E' * (E * numW A (wr [x] a)) = E * E' * numW A (wr [x] a) := by rw [← Int.mul_assoc, Int.mul_comm E' E]
    have e2 : E * (E' * numW A (wr [x] b)) = E * E' * numW A (wr [x] b) := by rw [Int.mul_assoc]
    omega
  have all := zeros_few (T := (E' * c - E * c', 1) :: (scV E' 1 T ++ scV (-E) 1 T')) (fun t ht => by
    rcases List.mem_cons.mp ht with rfl | ht
    · show (0 : Int) < 1
      decide
    · rcases List.mem_append.mp ht with ht | ht
      · obtain ⟨s, hs, rfl⟩ := List.mem_map.mp ht
        have := pos s hs
        show 0 < 1 * s.2
        omega
      · obtain ⟨s, hs, rfl⟩ := List.mem_map.mp ht
        have := pos' s hs
        show 0 < 1 * s.2
        omega) p (fun z hz' => by rw [key z, hz z hz', Int.sub_self, Int.mul_zero]) (by
    rw [List.length_cons, List.length_append]
    unfold scV
    rw [List.length_map, List.length_map]
    omega)
  refine norm_same ha hb fun pt hp => ?_
  obtain ⟨x, rfl⟩ : ∃ x, pt = [x] := by
    match pt, hp with
    | [x], _ => exact ⟨x, rfl⟩
  have z := all x
  rw [key x] at z
  rcases Int.mul_eq_zero.mp z with z | z
  · exact ((Int.mul_eq_zero.mp z).elim ne ne').elim
  · exact num_inj _ _ (la [x]) (lb [x]) (by omega)
end NM

set_option Elab.async false
set_option linter.all false
set_option maxRecDepth 100000
set_option maxHeartbeats 4000000
/-! max of a tuple of numbers; max(list, default=number) -/
namespace CK
open PySem PySem.Spec PyProof.Rows L2 PySem.W
theorem args_max_default (a d : Value) : argsOk "max" ⟨[a], [(Str.ofString "default", d)]⟩ := by unfold argsOk; kernel_rfl
section
variable {prog : Program} {w : World} {A : Around} {R : Result → Shared → Prop} {I : Addr} {fp wr : List Addr} {n : Nat} {P : Nat → Value → Prop} {St : Nat → Heap → Prop} {d : Value}
theorem max_loopD (W : Walks prog w A.in1 I fp wr n P St) (bt : Nat → Nat → Bool) (hcmp : CmpOf prog w A.in1 .Gt P bt) (S : Addr) (hSf : S ∉ fp) :
    ∀ (k j : Nat) (s : Shared) (vb : Value) (c : Nat), n - (j + 1) = k → j + 1 ≤ n → St (j + 1) s.heap → P (argBest bt j) vb →
    s.heap.get? S = some { cls := .type "list", dict := none, data := .seq #[vb, vb] c, slots := #[] } →
    (∀ v h' tk, P (argBest bt (n - 1)) v → (∀ b o, b ∉ wr → b ≠ S → s.heap.get? b = some o → h'.get? b = some o) → R (.ok (.ret v)) { s with heap := h', toks := tk }) →
    codeAny (model prog w) A (.builtin "max.loop" ⟨[.ref I, .none, .ref S], [(Str.ofString "default", d)]⟩) R s := by
  have hSw : S ∉ wr := fun h => hSf (W.sub _ h)
  have hname : (toString "max" ++ toString ".loop" : String) = "max.loop" := by decide
  intro k
  induction k with
  | zero =>
    intro j s vb c hk hj hst hPb hS hR
    have hin : j + 1 = n := by omega
    refine codeAny_builtin PySem.F.entry_max_loop ?_
    rw [Around.under_plainId PySem.F.plain_max_loop _]
    show wpAny _ A.in1 (seqItems? (.ref S) >>= _) _ _ s
    refine wpAny_bind (wpAny_seqItems hS rfl ?_)
    show wpAny _ A.in1 (tryCatch (pyNext (.ref I)) _ >>= _) _ _ s
    refine wpAny_bind (wpAny_tryCatch (W.done s _ _ (hin ▸ hst) fun h' tk hk' => ?_))
    have hS' := hk' S _ hSw hS
    show wpAny _ A.in1 (updateSeq S (fun _ => #[]) >>= _) _ _ _
    refine wpAny_bind ?_
    refine wpAny_updateSeq hS' rfl (wpAny_bind (wpAny_letGo (wpAny_pure ?_)))
    refine hR vb _ tk (by rw [← hin]; exact hPb) fun b o hbw hbS e => (Heap.get?_update_other _ _ (Ne.symm hbS)).trans (hk' b o hbw e)
  | succ k ih =>
    intro j s vb c hk hj hst hPb hS hR
    have hlt : j + 1 < n := by omega
    refine codeAny_builtin PySem.F.entry_max_loop ?_
    rw [Around.under_plainId PySem.F.plain_max_loop _]
    show wpAny _ A.in1 (seqItems? (.ref S) >>= _) _ _ s
    refine wpAny_bind (wpAny_seqItems hS rfl ?_)
    show wpAny _ A.in1 (tryCatch (pyNext (.ref I)) _ >>= _) _ _ s
    refine wpAny_bind (wpAny_tryCatch (W.item (j + 1) s _ _ hlt hst fun v h' tk hP hst' hk' => ?_))
    have hS' := hk' S _ hSw hS
    show wpAny _ A.in1 (tryCatch (holding [v, v] (richCompare .Gt v vb >>= _)) _ >>= _) _ _ _
    refine wpAny_bind (wpAny_tryCatch (wpAny_holding (wpAny_bind (hcmp (j + 1) (argBest bt j) v vb _ _ _ hP hPb ?_))))
    refine wpAny_bind (wpAny_holding (wpAny_truthy_bool ?_))
    refine wpAny_bind (wpAny_letGo (wpAny_pure ?_))
    cases hb : bt (j + 1) (argBest bt j) with
    | true =>
      simp only [if_true]
      refine wpAny_bind ?_
      refine wpAny_updateSeq hS' rfl (wpAny_bind (wpAny_letGo ?_))
      rw [hname]
      refine wpAny_pure ⟨plainId_quiet PySem.F.plain_max_loop _, ih (j + 1) _ v _ (by omega) hlt (W.frame _ _ _ hst' fun b hbf o e => ?_) (by simp only [argBest, hb, if_true]; exact hP) (Heap.get?_update_self _ hS' rfl)
        fun v' h'' tk'' hP' hk'' => ?_⟩
      · exact (Heap.get?_update_other _ _ (fun h : S = b => hSf (by rw [h]; exact hbf))).trans e
      · exact hR v' h'' tk'' hP' fun b o hbw hbS e => hk'' b o hbw hbS ((Heap.get?_update_other _ _ (Ne.symm hbS)).trans (hk' b o hbw e))
    | false =>
      simp only [Bool.false_eq_true, if_false]
      refine wpAny_bind (wpAny_letGo ?_)
      rw [hname]
      refine wpAny_pure ⟨plainId_quiet PySem.F.plain_max_loop _, ih (j + 1) _ vb c (by omega) hlt hst' (by simp only [argBest, hb, Bool.false_eq_true, if_false]; exact hPb) hS' fun v' h'' tk'' hP' hk'' => ?_⟩
      exact hR v' h'' tk'' hP' fun b o hbw hbS e => hk'' b o hbw hbS (hk' b o hbw e)
theorem max_firstD (W : Walks prog w A.in1 I fp wr n P St) (bt : Nat → Nat → Bool) (hcmp : CmpOf prog w A.in1 .Gt P bt) (S : Addr) (hSf : S ∉ fp) {s : Shared} {c : Nat} (hst : St 0 s.heap)
    (hS : s.heap.get? S = some { cls := .type "list", dict := none, data := .seq #[] c, slots := #[] })
    (h0 : n = 0 → ∀ h' tk, (∀ b o, b ∉ wr → b ≠ S → s.heap.get? b = some o → h'.get? b = some o) → R (.ok (.ret d)) { s with heap := h', toks := tk })
    (hR : 0 < n → ∀ v h' tk, P (argBest bt (n - 1)) v → (∀ b o, b ∉ wr → b ≠ S → s.heap.get? b = some o → h'.get? b = some o) → R (.ok (.ret v)) { s with heap := h', toks := tk }) :
    codeAny (model prog w) A (.builtin "max.loop" ⟨[.ref I, .none, .ref S], [(Str.ofString "default", d)]⟩) R s := by
  have hSw : S ∉ wr := fun h => hSf (W.sub _ h)
  have hname : (toString "max" ++ toString ".loop" : String) = "max.loop" := by decide
  refine codeAny_builtin PySem.F.entry_max_loop ?_
  rw [Around.under_plainId PySem.F.plain_max_loop _]
  show wpAny _ A.in1 (seqItems? (.ref S) >>= _) _ _ s
  refine wpAny_bind (wpAny_seqItems hS rfl ?_)
  show wpAny _ A.in1 (tryCatch (pyNext (.ref I)) _ >>= _) _ _ s
  rcases Nat.eq_zero_or_pos n with hn | hn
  · refine wpAny_bind (wpAny_tryCatch (W.done s _ _ (hn ▸ hst) fun h' tk hk' => ?_))
    show wpAny _ A.in1 (rule _ >>= _) _ _ _
    refine wpAny_bind (wpAny_rule ?_)
    exact wpAny_pure (h0 hn h' tk fun b o hbw _ e => hk' b o hbw e)
  · refine wpAny_bind (wpAny_tryCatch (W.item 0 s _ _ hn hst fun v h' tk hP hst' hk' => ?_))
    have hS' := hk' S _ hSw hS
    show wpAny _ A.in1 (updateSeq S (fun _ => #[v, v]) >>= _) _ _ _
    refine wpAny_bind ?_
    refine wpAny_updateSeq hS' rfl ?_
    rw [hname]
    refine wpAny_pure ⟨plainId_quiet PySem.F.plain_max_loop _, max_loopD W bt hcmp S hSf _ 0 _ v _ rfl hn (W.frame _ _ _ hst' fun b hbf o e => ?_) hP (Heap.get?_update_self _ hS' rfl) fun v' h'' tk'' hP' hk'' => ?_⟩
    · exact (Heap.get?_update_other _ _ (fun h : S = b => hSf (by rw [h]; exact hbf))).trans e
    · exact hR hn v' h'' tk'' hP' fun b o hbw hbS e => hk'' b o hbw hbS ((Heap.get?_update_other _ _ (Ne.symm hbS)).trans (hk' b o hbw e))
end
section
variable {prog : Program} {w : World} {A : Around} {E : Value → Shared → Prop} {s : Shared}
theorem call_max_walkD {x d : Value} {Q : Value → Shared → Prop}
    (h : wpAny (model prog w) A.in1 (pyIter x) (fun it s₂ => ∃ I fp wr n P St bt, it = .ref I ∧ Walks prog w A.in1 I fp wr n P St ∧ St 0 s₂.heap ∧ (∀ b ∈ fp, b < s₂.heap.objs.size) ∧ CmpOf prog w A.in1 .Gt P bt ∧
      (n = 0 → ∀ h' tk, (∀ b o, b ∉ wr → s₂.heap.get? b = some o → h'.get? b = some o) → Q d { s₂ with heap := h', toks := tk }) ∧
      (0 < n → ∀ v h' tk, P (argBest bt (n - 1)) v → (∀ b o, b ∉ wr → s₂.heap.get? b = some o → h'.get? b = some o) → Q v { s₂ with heap := h', toks := tk })) E s) :
    wpAny (model prog w) A (call (.builtin "max") [x] [(Str.ofString "default", d)]) Q E s := by
  have hname : (toString "max" ++ toString ".loop" : String) = "max.loop" := by decide
  refine PyProof.Rows.kmk_tree PySem.F.kind_max PySem.F.plain_max PySem.F.entry_max (args_max_default _ _) ?_
  show wpAny _ A.in1 (Builtin.Builtins.bindParams "max" ["key", "default"] 0 ⟨[], [(Str.ofString "default", d)]⟩ >>= _) _ _ s
  refine wpAny_bind (wpAny_of_eq (show Builtin.Builtins.bindParams "max" ["key", "default"] 0 ⟨[], [(Str.ofString "default", d)]⟩ = pure [none, some d] from rfl) ?_)
  refine wpAny_bind (wpAny_pure ?_)
  refine wpAny_bind (wpAny_mono h (fun it s₂ h₂ => ?_) fun _ _ e => e)
  obtain ⟨I, fp, wr, n, P, St, bt, rfl, W, hst, hfp, hcmp, h0, hQ⟩ := h₂
  refine wpAny_bind (wpAny_newObj_type ?_)
  have hSf : s₂.heap.objs.size ∉ fp := fun hm => Nat.lt_irrefl _ (hfp _ hm)
  rw [hname]
  refine wpAny_pure ⟨plainId_quiet PySem.F.plain_max_loop _, max_firstD W bt hcmp s₂.heap.objs.size hSf (W.frame _ _ _ hst fun b _ o e => Heap.get?_push_of_some _ e) (Heap.get?_push_size _ rfl) (fun hn h' tk hk => ?_) fun hn v h' tk hP hk => ?_⟩
  · exact h0 hn h' tk fun b o hbw e => hk b o hbw (Nat.ne_of_lt (Heap.lt_size e)) (Heap.get?_push_of_some _ e)
  · exact hQ hn v h' tk hP fun b o hbw e => hk b o hbw (Nat.ne_of_lt (Heap.lt_size e)) (Heap.get?_push_of_some _ e)
end
/-- the greatest of numbers, 0 where there is none -/
def mx : List Nat → Nat
  | [] => 0
  | a :: l => max a (mx l)
theorem mx_le {n : Nat} : ∀ {l : List Nat}, (∀ x ∈ l, x ≤ n) → mx l ≤ n
  | [], _ => Nat.zero_le _
  | a :: l, h => by
    have := mx_le fun x hx => h x (List.mem_cons_of_mem _ hx)
    have := h a List.mem_cons_self
    rw [mx]
    omega
theorem le_mx {x : Nat} : ∀ {l : List Nat}, x ∈ l → x ≤ mx l
  | a :: l, h => by
    rw [mx]
    rcases List.mem_cons.mp h with rfl | h
    · omega
    · have := le_mx h
      omega
theorem mx_is {n : Nat} {l : List Nat} (m : n ∈ l) (h : ∀ x ∈ l, x ≤ n) : mx l = n := Nat.le_antisymm (mx_le h) (le_mx m)
theorem best_is {its : List Value} {ns : List Int} {xs : Array (Int × Tok)} {v : Value} (hn : (xs.toList.map (·.1)) = ns) (hsz : 0 < xs.size) (hv : (intItems xs)[argBest (fun i j => decide (numAt xs i > numAt xs j)) (xs.size - 1)]? = some v) : ∃ M t, v = .int M t ∧ M ∈ ns ∧ ∀ a ∈ ns, a ≤ M := by
  subst hn
  obtain ⟨t, rfl⟩ := intItems_at hv
  obtain ⟨h1, h2⟩ := argBest_gt (numAt xs) (xs.size - 1)
  refine ⟨_, t, rfl, ?_, fun a ha => ?_⟩
  · rw [numAt_eq]; exact PySem.getD_mem (by rw [List.length_map, Array.length_toList]; omega)
  · obtain ⟨j, hj, rfl⟩ := mem_getD ha
    rw [List.length_map, Array.length_toList] at hj
    rw [← numAt_eq]; exact h2 j (by omega)
theorem big_nat {M : Int} {ns : List Nat} (hm : M ∈ ns.map fun n : Nat => ((n : Nat) : Int)) (hle : ∀ a ∈ ns.map fun n : Nat => ((n : Nat) : Int), a ≤ M) : M = ((mx ns : Nat) : Int) := by
  obtain ⟨n, hn, rfl⟩ := List.mem_map.mp hm
  rw [mx_is hn fun x hx => by have := hle _ (List.mem_map.mpr ⟨x, hx, rfl⟩); omega]
section
variable {prog : Program} {w : World} {A : Around} {E : Value → Shared → Prop} {s : Shared} {l : Addr} {xs : Array (Int × Tok)}
theorem iter_tup {Q : Value → Shared → Prop} (hl : s.heap.IsTuple l (intItems xs)) (h : Q (.ref s.heap.objs.size) { s with heap := s.heap.push { cls := .type "tuple_iterator", data := .fields #[.ref l, .int 0 0] } }) : wpAny (model prog w) A (pyIter (.ref l)) Q E s := wpAny_pyIter_tuple hl h
theorem max_tupG {Q : Value → Shared → Prop} (hh : A.handled = none) (hl : s.heap.IsTuple l (intItems xs)) (hne : 0 < xs.size)
    (h : ∀ v h' tk, (intItems xs)[argBest (fun i j => decide (numAt xs i > numAt xs j)) (xs.size - 1)]? = some v → (∀ b o, s.heap.get? b = some o → h'.get? b = some o) → Q v { s with heap := h', toks := tk }) :
    wpAny (model prog w) A (call (.builtin "max") [.ref l]) Q E s := by
  have hlt : l < s.heap.objs.size := by obtain ⟨_, e, _⟩ := hl; exact Heap.lt_size e
  refine call_max_walk (wpAny_pyIter_tuple hl ?_)
  refine ⟨_, _, _, _, _, _, _, rfl, Walks.tuple (A := A.in1) hh _ l (Nat.ne_of_lt hlt) (intItems xs), ⟨⟨_, Heap.get?_push_size _ rfl, rfl, rfl⟩, hl.push _⟩, fun b hb => ?_, by simpa [intItems] using hne, CmpOf.ints_gt (numAt xs) (fun _ _ => intItems_at), fun v h' tk hP hk => ?_⟩
  · show b < (s.heap.push _).objs.size
    rw [Heap.size_push]
    rcases List.mem_cons.mp hb with rfl | hb
    · exact Nat.lt_succ_self _
    · rcases List.mem_cons.mp hb with rfl | hb
      · exact Nat.lt_succ_of_lt hlt
      · cases hb
  · refine h v h' tk (by simpa [intItems] using hP) fun b o e => ?_
    refine hk b o (fun hm => ?_) (Heap.get?_push_of_some _ e)
    have := List.mem_singleton.mp hm
    have hb := Heap.lt_size e
    rw [this] at hb
    exact absurd hb (Nat.lt_irrefl _)
theorem max_listD {d : Value} {Q : Value → Shared → Prop} (hh : A.handled = none) (hl : s.heap.IsList l (intItems xs))
    (h0 : xs.size = 0 → ∀ h' tk, (∀ b o, s.heap.get? b = some o → h'.get? b = some o) → Q d { s with heap := h', toks := tk })
    (h : 0 < xs.size → ∀ v h' tk, (intItems xs)[argBest (fun i j => decide (numAt xs i > numAt xs j)) (xs.size - 1)]? = some v → (∀ b o, s.heap.get? b = some o → h'.get? b = some o) → Q v { s with heap := h', toks := tk }) :
    wpAny (model prog w) A (call (.builtin "max") [.ref l] [(Str.ofString "default", d)]) Q E s := by
  refine call_max_walkD (iter_intList hl fun s₂ e st hfp hlI => ?_)
  subst e
  refine ⟨_, _, _, _, _, _, _, rfl, Walks.list (A := A.in1) hh _ l hlI (intItems xs), st, hfp, CmpOf.ints_gt (numAt xs) (fun _ _ => intItems_at), fun hn h' tk hk => ?_, fun hn v h' tk hP hk => ?_⟩
  · exact h0 (by simpa [intItems] using hn) h' tk (old_kept hk)
  · exact h (by simpa [intItems] using hn) v h' tk (by simpa [intItems] using hP) (old_kept hk)
end
section
variable {X : Cx}
/-- max of a tuple of numbers -/
theorem cr_maxT (hc : X.calm = true) : CallR X (.builtin "max") (fun vs H Q => ∃ (a : Addr) (ns : List Nat), vs = [V.ref a] ∧ H a = some (.tup (ns.map fun n : Nat => V.int (n : Nat))) ∧ 0 < ns.length ∧ Q (.int (mx ns : Nat)) H) := by
  intro pins s σ H vs us Q I r h
  obtain ⟨a, ns, rfl, ha, hne, q⟩ := h
  obtain ⟨its, rv, hl, _⟩ := I.tuple (.inl (.inl ha))
  rw [Vals.ref1 r]
  have e0 : (ns.map fun n : Nat => V.int (n : Nat)) = (ns.map fun n : Nat => ((n : Nat) : Int)).map V.int := by
    rw [List.map_map]
    rfl
  rw [e0] at rv
  have hi := rv.ints
  obtain ⟨xs, e⟩ := hi.allInts.items
  have hn : numsOf (intItems xs).toList = ns.map fun n : Nat => ((n : Nat) : Int) := by rw [← e]; exact hi.numsOf
  rw [nums_intItems] at hn
  have hl' : s.heap.IsTuple a (intItems xs) := by rw [← e]; exact hl
  have hz : 0 < xs.size := by
    have := congrArg List.length hn
    rw [List.length_map, List.length_map, Array.length_toList] at this
    omega
  refine max_tupG (I.ok.hd hc) hl' hz fun v h' tk hv hk => ?_
  obtain ⟨M, t, rfl, hm, hle⟩ := best_is (its := []) hn hz hv
  rw [big_nat hm hle]
  exact ⟨.int _, H, I.kept (t' := tk) hk, ⟨_, rfl⟩, q⟩
/-- max of a list of numbers -/
theorem cr_maxL (hc : X.calm = true) : CallR X (.builtin "max") (fun vs H Q => ∃ (a : Addr) (ns : List Nat), vs = [V.ref a] ∧ H a = some (.lst (ns.map fun n : Nat => V.int (n : Nat))) ∧ 0 < ns.length ∧ Q (.int (mx ns : Nat)) H) := by
  intro pins s σ H vs us Q I r h
  obtain ⟨a, ns, rfl, ha, hne, q⟩ := h
  refine cr_max hc pins s σ H _ us Q I r ⟨a, ns.map fun n : Nat => ((n : Nat) : Int), rfl, .inl (.inl (by rw [ha, List.map_map]; rfl)), by rw [List.length_map]; exact hne, fun m hm hle => ?_⟩
  rw [big_nat hm hle]
  exact q
/-- over a tuple, with the written part told apart -/
theorem pi_tupK {K : PySem.W.Frag} (hK : X.K = K) {tg l : Expr} {tl : TE} (hl : PE X l tl) : PI X tg l (iTup K tl) := by
  subst hK
  exact pi_tup hl
/-- n *= m -/
theorem ip_mul : PIp X .Mult (fun x y H Q => ∃ (k n : Nat), x = .int k ∧ y = .int n ∧ k < 2 ^ 1000 ∧ n < 2 ^ 1000 ∧ Q (.int ((k * n : Nat) : Int)) H) := by
  intro pins s σ H x y v u Q I r1 r2 h
  obtain ⟨k, n, e1, e2, h0, h1, q⟩ := h
  subst e1; subst e2
  obtain ⟨t, rfl⟩ := r1
  obtain ⟨t', rfl⟩ := r2
  rw [Int.natCast_mul] at q
  exact PyProof.Rows.imul_int ⟨.int _, H, I.tok _, ⟨_, rfl⟩, q⟩ (wide_mul (i := (k : Int)) (j := (n : Int)) (a := 1000) (b := 1000) h0 h1 (by decide) (by decide) (by decide)).ok
/-- max(list, default=number) -/
theorem pe_maxD {x : Str} {p kp pos : Pos} {e cst : Expr} {t : TA} {tc : TE} (hcalm : X.calm = true) (hg : Gl X x) (hm : X.mg x = none) (hv : bootBuiltins x = some (.builtin "max")) (ha : PA X [e] t) (hcst : PE X cst tc)
    (hn : x ≠ "__name__" := by decide) (hdb : (x == ("__debug__" : Str)) = false := by decide)
    (he : backTo pos (starEach [e] X.env) = (false, eval e X.env) :: backTo pos (starEach [] X.env) := by rfl) (hpl : (backTo pos (starEach [e] X.env)).any (·.1) = false := by rfl) :
    PE X (.Call (.Name x p) [e] [⟨some "default", cst, kp⟩] pos) (fun σ H Q => t σ H fun vs H1 => tc σ H1 fun d H2 => ∃ (a : Addr) (ns : List Nat), vs = [V.ref a] ∧ H2 a = some (.lst (ns.map fun n : Nat => V.int (n : Nat))) ∧ d = .int 0 ∧ Q (.int (mx ns : Nat)) H2) := by
  refine ⟨fun pins s σ H Q I h => ?_⟩
  refine wpAny_Call_Name_kw (ld_blt I hg hm hv ?_ hn hdb)
  refine PyProof.Rows.callWith_kw (thn (ha.run pos pins s σ H _ I h) fun us s1 ⟨vs, H1, I1, r1, q1⟩ => ?_) he hpl rfl rfl
  show wpAny _ _ (evalAll ((do let v ← eval cst X.env; standAt pos; pure v) :: [])) _ _ s1
  refine wpAny_evalAll_cons (wpAny_bind (wpAny_mono (hcst.run pins s1 σ H1 _ I1 q1) (fun dv s2 h2 => ?_) fun _ _ e => e))
  obtain ⟨d, H2, I2, rd, q2⟩ := h2
  refine wpAny_bind (wpAny_standAt (wpAny_pure ?_))
  refine wpAny_evalAll_nil ?_
  obtain ⟨a, ns, rfl, hs, rfl, q⟩ := q2
  obtain ⟨td, rfl⟩ := rd
  rw [Vals.ref1 r1]
  show wpAny _ _ (call (.builtin "max") [.ref a] [(Str.ofString "default", .int 0 td)]) _ _ s2
  obtain ⟨its, rv, hl, _⟩ := I2.list (.inl (.inl hs))
  have e0 : (ns.map fun n : Nat => V.int (n : Nat)) = (ns.map fun n : Nat => ((n : Nat) : Int)).map V.int := by
    rw [List.map_map]
    rfl
  rw [e0] at rv
  have hi := rv.ints
  obtain ⟨xs, ex⟩ := hi.allInts.items
  have hn' : numsOf (intItems xs).toList = ns.map fun n : Nat => ((n : Nat) : Int) := by rw [← ex]; exact hi.numsOf
  rw [nums_intItems] at hn'
  have hl' : s2.heap.IsList a (intItems xs) := by rw [← ex]; exact hl.isList
  refine max_listD (I2.ok.hd hcalm) hl' (fun h0 h' tk hk => ?_) fun hz v h' tk hv hk => ?_
  · have en : ns = [] := List.length_eq_zero_iff.mp (by
      have := congrArg List.length hn'
      rw [List.length_map, List.length_map, Array.length_toList] at this
      omega)
    subst en
    exact ⟨.int _, H2, I2.kept (t' := tk) hk, ⟨_, rfl⟩, q⟩
  · obtain ⟨M, t', rfl, hm', hle⟩ := best_is (its := []) hn' hz hv
    rw [big_nat hm' hle] at *
    exact ⟨.int _, H2, I2.kept (t' := tk) hk, ⟨_, rfl⟩, q⟩
end
end CK

set_option Elab.async false
set_option linter.all false
/-! `in` within a comprehension -/
namespace CK
open PySem PySem.Spec PyProof.Rows L2
section
variable {X : Cx}
theorem op_notInK {K : PySem.W.Frag} (hK : X.K = K) : OpR X (compareOp .NotIn) (rIn K true) := by
  subst hK
  exact op_notIn_seq
theorem op_inK {K : PySem.W.Frag} (hK : X.K = K) : OpR X (compareOp .In) (rIn K false) := by
  subst hK
  exact op_in_seq
end
theorem in_nats (c : Nat) : ∀ xs : List Nat, inV (.int (c : Nat)) (xs.map fun n : Nat => V.int (n : Nat)) = decide (c ∈ xs)
  | [] => rfl
  | x :: xs => by
    have ih := in_nats c xs
    rw [List.map_cons]
    by_cases e : c = x
    · subst e
      rw [decide_eq_true List.mem_cons_self]
      simp [inV, eqV]
    · have : decide (c ∈ x :: xs) = decide (c ∈ xs) := decide_eq_decide.mpr (by simp [e])
      rw [this, ← ih]
      simp [inV, eqV]
      omega
theorem flat_nats (xs : List Nat) : (xs.map fun n : Nat => V.int (n : Nat)).all flatV = true := by
  rw [List.all_map]
  exact List.all_eq_true.mpr fun _ _ => rfl
/-- sorted numbers that are sorted again -/
theorem sort_again {ns : List Int} {xs : List Nat} (p : ns.Perm (xs.map fun n : Nat => ((n : Nat) : Int))) (s : ns.Pairwise (· ≤ ·)) (h : xs.Pairwise (· < ·)) : ns = xs.map fun n : Nat => ((n : Nat) : Int) := by
  refine List.Perm.eq_of_pairwise (le := (· ≤ ·)) (fun a b _ _ h1 h2 => Int.le_antisymm h1 h2) s ?_ p
  refine List.pairwise_map.mpr (h.imp fun {a b} h => ?_)
  omega
end CK

set_option Elab.async false
set_option linter.all false
set_option maxRecDepth 100000
set_option maxHeartbeats 4000000
namespace K39
open PySem PySem.Spec PyProof.Rows L2 CK
def topS (i : Nat) : Stmt := PySem.Challenge.pw_countscribe_k39_whole_words_of_two_progr.main.body.getD i (.Pass ⟨0, 0, 0, 0⟩)
theorem sc_wall : FnScope ["k"] ["k"] (C8.fnScope (topS 1)) := C8.fnScope_by (by decide +kernel)
theorem sc_is_whole : FnScope ["value"] ["value"] (C8.fnScope (topS 14)) := C8.fnScope_by (by decide +kernel)
theorem sc_is_count : FnScope ["value"] ["value"] (C8.fnScope (topS 15)) := C8.fnScope_by (by decide +kernel)
theorem sc_is_within : FnScope ["value", "low", "high"] ["value", "low", "high"] (C8.fnScope (topS 16)) := C8.fnScope_by (by decide +kernel)
theorem sc_is_lettered : FnScope ["value", "most"] ["value", "most"] (C8.fnScope (topS 17)) := C8.fnScope_by (by decide +kernel)
theorem sc_is_counts : FnScope ["value", "many", "number"] ["value", "many"] (C8.fnScope (topS 18)) := C8.fnScope_by (by decide +kernel)
theorem sc_need_within : FnScope ["value", "low", "high"] ["value", "low", "high"] (C8.fnScope (topS 19)) := C8.fnScope_by (by decide +kernel)
theorem sc_need_many : FnScope ["value"] ["value"] (C8.fnScope (topS 20)) := C8.fnScope_by (by decide +kernel)
theorem sc_need_point : FnScope ["value", "many"] ["value", "many"] (C8.fnScope (topS 21)) := C8.fnScope_by (by decide +kernel)
theorem sc_is_form_for : FnScope ["many", "value", "number"] ["many", "value"] (C8.fnScope (topS 23)) := C8.fnScope_by (by decide +kernel)
theorem sc_is_forms : FnScope ["value", "size", "many", "form"] ["value", "size", "many"] (C8.fnScope (topS 24)) := C8.fnScope_by (by decide +kernel)
theorem sc_plain_form : FnScope ["number", "many"] ["number", "many"] (C8.fnScope (topS 25)) := C8.fnScope_by (by decide +kernel)
theorem sc_form_value : FnScope ["form", "point", "number", "count"] ["form", "point"] (C8.fnScope (topS 26)) := C8.fnScope_by (by decide +kernel)
theorem sc_form_sum : FnScope ["one", "other", "left", "right"] ["one", "other"] (C8.fnScope (topS 27)) := C8.fnScope_by (by decide +kernel)
theorem sc_form_times : FnScope ["number", "form", "own"] ["number", "form"] (C8.fnScope (topS 28)) := C8.fnScope_by (by decide +kernel)
theorem sc_form_inserted : FnScope ["form", "many", "forms", "result", "number", "other"] ["form", "many", "forms"] (C8.fnScope (topS 29)) := C8.fnScope_by (by decide +kernel)
theorem sc_turned_word : FnScope ["word", "by", "at"] ["word", "by"] (C8.fnScope (topS 31)) := C8.fnScope_by (by decide +kernel)
theorem sc_stretch : FnScope ["word", "start", "size", "at"] ["word", "start", "size"] (C8.fnScope (topS 32)) := C8.fnScope_by (by decide +kernel)
theorem sc_alike_ahead : FnScope ["one", "other", "low", "high", "middle"] ["one", "other"] (C8.fnScope (topS 33)) := C8.fnScope_by (by decide +kernel)
theorem sc_alike_behind : FnScope ["one", "other"] ["one", "other"] (C8.fnScope (topS 34)) := C8.fnScope_by (by decide +kernel)
theorem sc_border_sizes : FnScope ["word", "sizes", "size", "at"] ["word"] (C8.fnScope (topS 35)) := C8.fnScope_by (by decide +kernel)
theorem sc_root_size : FnScope ["word", "step"] ["word"] (C8.fnScope (topS 36)) := C8.fnScope_by (by decide +kernel)
theorem sc_is_kept_piece : FnScope ["value"] ["value"] (C8.fnScope (topS 41)) := C8.fnScope_by (by decide +kernel)
theorem sc_need_kept_pieces : FnScope ["value", "item", "many", "word", "_"] ["value"] (C8.fnScope (topS 42)) := C8.fnScope_by (by decide +kernel)
theorem sc_put_together : FnScope ["pieces", "ready", "word", "times"] ["pieces"] (C8.fnScope (topS 43)) := C8.fnScope_by (by decide +kernel)
theorem sc_ends_of : FnScope ["pieces", "ends", "total", "word", "times"] ["pieces"] (C8.fnScope (topS 44)) := C8.fnScope_by (by decide +kernel)
theorem sc_KeptWord___init__ : FnScope ["self", "pieces"] ["self", "pieces"] (C8.fnScope (inClass (topS 45) 0)) := C8.fnScope_by (by decide +kernel)
theorem sc_KeptWord_pieces : FnScope ["self"] ["self"] (C8.fnScope (inClass (topS 45) 1)) := C8.fnScope_by (by decide +kernel)
theorem sc_KeptWord_length : FnScope ["self"] ["self"] (C8.fnScope (inClass (topS 45) 2)) := C8.fnScope_by (by decide +kernel)
theorem sc_KeptWord_letter : FnScope ["self", "at", "index", "word", "times"] ["self", "at"] (C8.fnScope (inClass (topS 45) 3)) := C8.fnScope_by (by decide +kernel)
theorem sc_KeptWord_part : FnScope ["self", "low", "high"] ["self", "low", "high"] (C8.fnScope (inClass (topS 45) 4)) := C8.fnScope_by (by decide +kernel)
theorem sc_KeptWord_plain : FnScope ["self"] ["self"] (C8.fnScope (inClass (topS 45) 5)) := C8.fnScope_by (by decide +kernel)
theorem sc_piece_index : FnScope ["ends", "at", "low", "high", "middle"] ["ends", "at"] (C8.fnScope (topS 46)) := C8.fnScope_by (by decide +kernel)
theorem sc_need_kept : FnScope ["value"] ["value"] (C8.fnScope (topS 47)) := C8.fnScope_by (by decide +kernel)
theorem sc_sizes_of : FnScope ["pieces", "word", "times"] ["pieces"] (C8.fnScope (topS 49)) := C8.fnScope_by (by decide +kernel)
theorem sc_place_within : FnScope ["sizes", "at", "index", "size"] ["sizes", "at"] (C8.fnScope (topS 50)) := C8.fnScope_by (by decide +kernel)
theorem sc_alike_from : FnScope ["one", "one_at", "other", "other_at", "one_sizes", "other_sizes", "left", "one_rest", "right", "other_rest", "total", "size", "look", "same"] ["one", "one_at", "other", "other_at"] (C8.fnScope (topS 51)) := C8.fnScope_by (by decide +kernel)
theorem sc_agree : FnScope ["one", "other"] ["one", "other"] (C8.fnScope (topS 53)) := C8.fnScope_by (by decide +kernel)
theorem sc_compare : FnScope ["one", "other", "same"] ["one", "other"] (C8.fnScope (topS 54)) := C8.fnScope_by (by decide +kernel)
theorem sc_same_kept : FnScope ["one", "other"] ["one", "other"] (C8.fnScope (topS 55)) := C8.fnScope_by (by decide +kernel)
theorem sc_is_piece : FnScope ["many", "value"] ["many", "value"] (C8.fnScope (topS 60)) := C8.fnScope_by (by decide +kernel)
theorem sc_is_open_form : FnScope ["form"] ["form"] (C8.fnScope (topS 61)) := C8.fnScope_by (by decide +kernel)
theorem sc_is_power : FnScope ["piece"] ["piece"] (C8.fnScope (topS 62)) := C8.fnScope_by (by decide +kernel)
theorem sc_fixed_piece : FnScope ["word", "many"] ["word", "many"] (C8.fnScope (topS 63)) := C8.fnScope_by (by decide +kernel)
theorem sc_measure : FnScope ["pieces", "word", "form"] ["pieces"] (C8.fnScope (topS 64)) := C8.fnScope_by (by decide +kernel)
theorem sc_letters_in : FnScope ["pieces", "word", "_"] ["pieces"] (C8.fnScope (topS 65)) := C8.fnScope_by (by decide +kernel)
theorem sc_powers_in : FnScope ["pieces", "piece"] ["pieces"] (C8.fnScope (topS 66)) := C8.fnScope_by (by decide +kernel)
theorem sc_normal_pieces : FnScope ["pieces", "ready", "word", "form", "size"] ["pieces"] (C8.fnScope (topS 67)) := C8.fnScope_by (by decide +kernel)
theorem sc_put_fixed : FnScope ["ready", "word", "many"] ["ready", "word", "many"] (C8.fnScope (topS 68)) := C8.fnScope_by (by decide +kernel)
theorem sc_put_power : FnScope ["ready", "word", "form", "many", "behind", "ahead", "moved"] ["ready", "word", "form"] (C8.fnScope (topS 69)) := C8.fnScope_by (by decide +kernel)
theorem sc_need_pieces : FnScope ["many", "pieces", "item"] ["many", "pieces"] (C8.fnScope (topS 71)) := C8.fnScope_by (by decide +kernel)
theorem sc_need_measure : FnScope ["total"] ["total"] (C8.fnScope (topS 72)) := C8.fnScope_by (by decide +kernel)
theorem sc_normal : FnScope ["many", "pieces"] ["many", "pieces"] (C8.fnScope (topS 73)) := C8.fnScope_by (by decide +kernel)
theorem sc_OpenText___init__ : FnScope ["self", "many", "pieces"] ["self", "many", "pieces"] (C8.fnScope (inClass (topS 75) 0)) := C8.fnScope_by (by decide +kernel)
theorem sc_OpenText___eq__ : FnScope ["self", "other"] ["self", "other"] (C8.fnScope (inClass (topS 75) 1)) := C8.fnScope_by (by decide +kernel)
theorem sc_OpenText_many : FnScope ["self"] ["self"] (C8.fnScope (inClass (topS 75) 2)) := C8.fnScope_by (by decide +kernel)
theorem sc_OpenText_pieces : FnScope ["self"] ["self"] (C8.fnScope (inClass (topS 75) 3)) := C8.fnScope_by (by decide +kernel)
theorem sc_need_text : FnScope ["value"] ["value"] (C8.fnScope (topS 76)) := C8.fnScope_by (by decide +kernel)
theorem sc_need_text_along : FnScope ["value"] ["value"] (C8.fnScope (topS 77)) := C8.fnScope_by (by decide +kernel)
theorem sc_text_of : FnScope ["many", "pieces"] ["many", "pieces"] (C8.fnScope (topS 78)) := C8.fnScope_by (by decide +kernel)
theorem sc_size : FnScope ["text"] ["text"] (C8.fnScope (topS 79)) := C8.fnScope_by (by decide +kernel)
theorem sc_counted : FnScope ["text", "point", "word", "form"] ["text", "point"] (C8.fnScope (topS 80)) := C8.fnScope_by (by decide +kernel)
theorem sc_kept : FnScope ["text", "point"] ["text", "point"] (C8.fnScope (topS 81)) := C8.fnScope_by (by decide +kernel)
theorem sc_length : FnScope ["text", "total", "word", "form"] ["text"] (C8.fnScope (topS 82)) := C8.fnScope_by (by decide +kernel)
theorem sc_replaced : FnScope ["text", "many", "forms", "word", "form"] ["text", "many", "forms"] (C8.fnScope (topS 83)) := C8.fnScope_by (by decide +kernel)
theorem sc_agreeing : FnScope ["one", "other"] ["one", "other"] (C8.fnScope (topS 85)) := C8.fnScope_by (by decide +kernel)
theorem sc_agreeing_counts : FnScope ["one", "other", "left", "right", "counts", "count", "point"] ["one", "other"] (C8.fnScope (topS 86)) := C8.fnScope_by (by decide +kernel)
theorem sc_shared : FnScope ["one", "other", "pair", "step", "left", "right", "at"] ["one", "other"] (C8.fnScope (topS 87)) := C8.fnScope_by (by decide +kernel)
theorem sc_shared_text : FnScope ["one", "other", "found"] ["one", "other"] (C8.fnScope (topS 88)) := C8.fnScope_by (by decide +kernel)
theorem sc_need_power_text : FnScope ["value"] ["value"] (C8.fnScope (topS 89)) := C8.fnScope_by (by decide +kernel)
theorem sc_length_line : FnScope ["one", "other", "divisor", "by", "to", "ahead", "count", "short"] ["one", "other"] (C8.fnScope (topS 90)) := C8.fnScope_by (by decide +kernel)
theorem sc_inverse : FnScope ["number", "modulus", "rest", "other", "factor", "more", "times"] ["number", "modulus"] (C8.fnScope (topS 91)) := C8.fnScope_by (by decide +kernel)
theorem sc_law_hash : FnScope ["_law_seed", "_law_index", "_law_mixed"] ["_law_seed", "_law_index"] (C8.fnScope (topS 93)) := C8.fnScope_by (by decide +kernel)
theorem sc_law_random : FnScope ["_law_generator_here", "_law_bound", "_law_drawn", "_law_turn"] ["_law_generator_here", "_law_bound"] (C8.fnScope (topS 94)) := C8.fnScope_by (by decide +kernel)
theorem sc_law_cell : FnScope ["_law_script", "_law_index"] ["_law_script", "_law_index"] (C8.fnScope (topS 95)) := C8.fnScope_by (by decide +kernel)
theorem sc_law_generator : FnScope ["_law_script", "_law_index", "_law_seed"] ["_law_script", "_law_index"] (C8.fnScope (topS 96)) := C8.fnScope_by (by decide +kernel)
theorem sc_law_letters : FnScope ["_law_generator_here", "_law_first", "_law_step", "_law_turn"] ["_law_generator_here"] (C8.fnScope (topS 97)) := C8.fnScope_by (by decide +kernel)
theorem sc_law_word : FnScope ["_law_generator_here", "_law_letters_here", "_law_least", "_law_most", "_law_many", "_law_turn"] ["_law_generator_here", "_law_letters_here", "_law_least", "_law_most"] (C8.fnScope (topS 98)) := C8.fnScope_by (by decide +kernel)
theorem sc_law_plain : FnScope ["_law_many", "_law_number"] ["_law_many", "_law_number"] (C8.fnScope (topS 99)) := C8.fnScope_by (by decide +kernel)
theorem sc_law_form : FnScope ["_law_generator_here", "_law_many", "_law_constant", "_law_most", "_law_turn"] ["_law_generator_here", "_law_many", "_law_constant", "_law_most"] (C8.fnScope (topS 100)) := C8.fnScope_by (by decide +kernel)
theorem sc_law_piece : FnScope ["_law_generator_here", "_law_many", "_law_letters_here", "_law_core", "_law_most", "_law_way", "_law_turn"] ["_law_generator_here", "_law_many", "_law_letters_here", "_law_core", "_law_most"] (C8.fnScope (topS 101)) := C8.fnScope_by (by decide +kernel)
theorem sc_law_text : FnScope ["_law_generator_here", "_law_letters_here", "_law_most", "_law_core", "_law_pieces", "_law_turn", "_law_at"] ["_law_generator_here", "_law_letters_here", "_law_most"] (C8.fnScope (topS 102)) := C8.fnScope_by (by decide +kernel)
theorem sc_law_common : FnScope ["_law_one", "_law_other"] ["_law_one", "_law_other"] (C8.fnScope (topS 103)) := C8.fnScope_by (by decide +kernel)
theorem sc_law_least_pair : FnScope ["_law_first", "_law_by", "_law_second", "_law_to", "_law_count", "_law_left"] ["_law_first", "_law_by", "_law_second", "_law_to"] (C8.fnScope (topS 104)) := C8.fnScope_by (by decide +kernel)
theorem sc_law_told_right : FnScope ["_law_generator_here", "_law_text_here", "_law_ways", "_law_due", "_law_one", "_law_other", "_law_told", "_law_common_here", "_law_steps", "_law_found", "_law_form_here", "_law_turn", "_law_mine", "_law_yours"] ["_law_generator_here", "_law_text_here", "_law_ways", "_law_due"] (C8.fnScope (topS 105)) := C8.fnScope_by (by decide +kernel)
theorem sc_law_right : FnScope ["_law_generator_here", "_law_letters_here", "_law_text_here", "_law_far", "_law_ways", "_law_turn", "_law_due", "_law_scale", "_law_great"] ["_law_generator_here"] (C8.fnScope (topS 106)) := C8.fnScope_by (by decide +kernel)
theorem sc_law : FnScope ["_law_script", "_law_index"] ["_law_script"] (C8.fnScope (topS 107)) := C8.fnScope_by (by decide +kernel)
structure Txt (K : PySem.W.Frag) (mg : Str → Option Value) (C_KeptWord C_OpenText : Addr) : Prop where
  k_KeptWord : ClF K mg "KeptWord" C_KeptWord
  k_OpenText : ClF K mg "OpenText" C_OpenText
  nn_OpenText : NeF K C_OpenText
  f_ends : NoAttr K C_KeptWord "_ends"
  f_KeptWord_pieces : NoAttr K C_KeptWord "_pieces"
  f_many : NoAttr K C_OpenText "_many"
  f_pieces : NoAttr K C_OpenText "_pieces"
  d_wall : DefF K mg "_wall" (topS 1) ["k"]
  d_is_whole : DefF K mg "is_whole" (topS 14) ["value"]
  d_is_count : DefF K mg "is_count" (topS 15) ["value"]
  d_is_within : DefF K mg "is_within" (topS 16) ["value", "low", "high"]
  d_is_lettered : DefF K mg "is_lettered" (topS 17) ["value", "most"]
  d_is_counts : DefF K mg "is_counts" (topS 18) ["value", "many"]
  d_need_within : DefF K mg "need_within" (topS 19) ["value", "low", "high"]
  d_need_many : DefF K mg "need_many" (topS 20) ["value"]
  d_need_point : DefF K mg "need_point" (topS 21) ["value", "many"]
  d_is_form_for : DefF K mg "is_form_for" (topS 23) ["many", "value"]
  d_is_forms : DefF K mg "is_forms" (topS 24) ["value", "size", "many"]
  d_plain_form : DefF K mg "plain_form" (topS 25) ["number", "many"]
  d_form_value : DefF K mg "form_value" (topS 26) ["form", "point"]
  d_form_sum : DefF K mg "form_sum" (topS 27) ["one", "other"]
  d_form_times : DefF K mg "form_times" (topS 28) ["number", "form"]
  d_form_inserted : DefF K mg "form_inserted" (topS 29) ["form", "many", "forms"]
  d_turned_word : DefF K mg "turned_word" (topS 31) ["word", "by"]
  d_stretch : DefF K mg "stretch" (topS 32) ["word", "start", "size"]
  d_alike_ahead : DefF K mg "alike_ahead" (topS 33) ["one", "other"]
  d_alike_behind : DefF K mg "alike_behind" (topS 34) ["one", "other"]
  d_border_sizes : DefF K mg "border_sizes" (topS 35) ["word"]
  d_root_size : DefF K mg "root_size" (topS 36) ["word"]
  d_is_kept_piece : DefF K mg "is_kept_piece" (topS 41) ["value"]
  d_need_kept_pieces : DefF K mg "need_kept_pieces" (topS 42) ["value"]
  d_put_together : DefF K mg "put_together" (topS 43) ["pieces"]
  d_ends_of : DefF K mg "ends_of" (topS 44) ["pieces"]
  d_KeptWord___init__ : MetF K C_KeptWord "__init__" "KeptWord.__init__" (inClass (topS 45) 0) ["self", "pieces"]
  d_KeptWord_pieces : MetF K C_KeptWord "pieces" "KeptWord.pieces" (inClass (topS 45) 1) ["self"]
  d_KeptWord_length : MetF K C_KeptWord "length" "KeptWord.length" (inClass (topS 45) 2) ["self"]
  d_KeptWord_letter : MetF K C_KeptWord "letter" "KeptWord.letter" (inClass (topS 45) 3) ["self", "at"]
  d_KeptWord_part : MetF K C_KeptWord "part" "KeptWord.part" (inClass (topS 45) 4) ["self", "low", "high"]
  d_KeptWord_plain : MetF K C_KeptWord "plain" "KeptWord.plain" (inClass (topS 45) 5) ["self"]
  d_piece_index : DefF K mg "piece_index" (topS 46) ["ends", "at"]
  d_need_kept : DefF K mg "need_kept" (topS 47) ["value"]
  d_sizes_of : DefF K mg "sizes_of" (topS 49) ["pieces"]
  d_place_within : DefF K mg "place_within" (topS 50) ["sizes", "at"]
  d_alike_from : DefF K mg "alike_from" (topS 51) ["one", "one_at", "other", "other_at"]
  d_agree : DefF K mg "agree" (topS 53) ["one", "other"]
  d_compare : DefF K mg "compare" (topS 54) ["one", "other"]
  d_same_kept : DefF K mg "same_kept" (topS 55) ["one", "other"]
  d_is_piece : DefF K mg "is_piece" (topS 60) ["many", "value"]
  d_is_open_form : DefF K mg "is_open_form" (topS 61) ["form"]
  d_is_power : DefF K mg "is_power" (topS 62) ["piece"]
  d_fixed_piece : DefF K mg "fixed_piece" (topS 63) ["word", "many"]
  d_measure : DefF K mg "measure" (topS 64) ["pieces"]
  d_letters_in : DefF K mg "letters_in" (topS 65) ["pieces"]
  d_powers_in : DefF K mg "powers_in" (topS 66) ["pieces"]
  d_normal_pieces : DefF K mg "normal_pieces" (topS 67) ["pieces"]
  d_put_fixed : DefF K mg "put_fixed" (topS 68) ["ready", "word", "many"]
  d_put_power : DefF K mg "put_power" (topS 69) ["ready", "word", "form"]
  d_need_pieces : DefF K mg "need_pieces" (topS 71) ["many", "pieces"]
  d_need_measure : DefF K mg "need_measure" (topS 72) ["total"]
  d_normal : DefF K mg "normal" (topS 73) ["many", "pieces"]
  d_OpenText___init__ : MetF K C_OpenText "__init__" "OpenText.__init__" (inClass (topS 75) 0) ["self", "many", "pieces"]
  d_OpenText___eq__ : MetF K C_OpenText "__eq__" "OpenText.__eq__" (inClass (topS 75) 1) ["self", "other"]
  d_OpenText_many : MetF K C_OpenText "many" "OpenText.many" (inClass (topS 75) 2) ["self"]
  d_OpenText_pieces : MetF K C_OpenText "pieces" "OpenText.pieces" (inClass (topS 75) 3) ["self"]
  d_need_text : DefF K mg "need_text" (topS 76) ["value"]
  d_need_text_along : DefF K mg "need_text_along" (topS 77) ["value"]
  d_text_of : DefF K mg "text_of" (topS 78) ["many", "pieces"]
  d_size : DefF K mg "size" (topS 79) ["text"]
  d_counted : DefF K mg "counted" (topS 80) ["text", "point"]
  d_kept : DefF K mg "kept" (topS 81) ["text", "point"]
  d_length : DefF K mg "length" (topS 82) ["text"]
  d_replaced : DefF K mg "replaced" (topS 83) ["text", "many", "forms"]
  d_agreeing : DefF K mg "agreeing" (topS 85) ["one", "other"]
  d_agreeing_counts : DefF K mg "agreeing_counts" (topS 86) ["one", "other"]
  d_shared : DefF K mg "shared" (topS 87) ["one", "other"]
  d_shared_text : DefF K mg "shared_text" (topS 88) ["one", "other"]
  d_need_power_text : DefF K mg "need_power_text" (topS 89) ["value"]
  d_length_line : DefF K mg "length_line" (topS 90) ["one", "other"]
  d_inverse : DefF K mg "inverse" (topS 91) ["number", "modulus"]
  d_law_hash : DefF K mg "_law_hash" (topS 93) ["_law_seed", "_law_index"]
  d_law_random : DefF K mg "_law_random" (topS 94) ["_law_generator_here", "_law_bound"]
  d_law_cell : DefF K mg "_law_cell" (topS 95) ["_law_script", "_law_index"]
  d_law_generator : DefF K mg "_law_generator" (topS 96) ["_law_script", "_law_index"]
  d_law_letters : DefF K mg "_law_letters" (topS 97) ["_law_generator_here"]
  d_law_word : DefF K mg "_law_word" (topS 98) ["_law_generator_here", "_law_letters_here", "_law_least", "_law_most"]
  d_law_plain : DefF K mg "_law_plain" (topS 99) ["_law_many", "_law_number"]
  d_law_form : DefF K mg "_law_form" (topS 100) ["_law_generator_here", "_law_many", "_law_constant", "_law_most"]
  d_law_piece : DefF K mg "_law_piece" (topS 101) ["_law_generator_here", "_law_many", "_law_letters_here", "_law_core", "_law_most"]
  d_law_text : DefF K mg "_law_text" (topS 102) ["_law_generator_here", "_law_letters_here", "_law_most"]
  d_law_common : DefF K mg "_law_common" (topS 103) ["_law_one", "_law_other"]
  d_law_least_pair : DefF K mg "_law_least_pair" (topS 104) ["_law_first", "_law_by", "_law_second", "_law_to"]
  d_law_told_right : DefF K mg "_law_told_right" (topS 105) ["_law_generator_here", "_law_text_here", "_law_ways", "_law_due"]
  d_law_right : DefF K mg "_law_right" (topS 106) ["_law_generator_here"]
  d_law : DefF K mg "law" (topS 107) ["_law_script"]
  g_gcd : mg "gcd" = some (.builtin "math.gcd")
  m_all : mg "all" = none
  m_any : mg "any" = none
  m_bool : mg "bool" = none
  m_enumerate : mg "enumerate" = none
  m_int : mg "int" = none
  m_isinstance : mg "isinstance" = none
  m_len : mg "len" = none
  m_list : mg "list" = none
  m_max : mg "max" = none
  m_min : mg "min" = none
  m_range : mg "range" = none
  m_str : mg "str" = none
  m_sum : mg "sum" = none
  m_tuple : mg "tuple" = none
  m_zip : mg "zip" = none
  k_MOST_KEPT_LETTERS : ∃ u, mg "MOST_KEPT_LETTERS" = some u ∧ RelV (.int 10000) u
  k_MOST_KEPT_PIECES : ∃ u, mg "MOST_KEPT_PIECES" = some u ∧ RelV (.int 5000) u
  k_MOST_KEPT_WORD : ∃ u, mg "MOST_KEPT_WORD" = some u ∧ RelV (.int 2000) u
  k_MOST_MEASURE : ∃ u, mg "MOST_MEASURE" = some u ∧ RelV (.int 2000) u
  k_MOST_PIECES : ∃ u, mg "MOST_PIECES" = some u ∧ RelV (.int 5000) u
  k_MOST_PIECE_LETTERS : ∃ u, mg "MOST_PIECE_LETTERS" = some u ∧ RelV (.int 2000) u
  k_MOST_UNKNOWNS : ∃ u, mg "MOST_UNKNOWNS" = some u ∧ RelV (.int 3) u
end K39

set_option Elab.async false
set_option linter.all false
set_option maxRecDepth 100000
set_option maxHeartbeats 2000000
namespace K39
open PySem PySem.Spec PyProof.Rows L2 CK SX NM
/-! ### letters -/
def Low (w : List Nat) : Prop := ∀ c ∈ w, 97 ≤ c ∧ c ≤ 122
theorem low_cases {c : Nat} (h : 97 ≤ c ∧ c ≤ 122) : Unicode.isAlpha c = true ∧ Unicode.isLower c = true ∧ (Unicode.isUpper c || Unicode.isTitle c) = false := by
  have : c ∈ List.range' 97 26 := by
    rw [List.mem_range']
    exact ⟨c - 97, by omega, by omega⟩
  have all : (List.range' 97 26).all (fun c => Unicode.isAlpha c && Unicode.isLower c && !(Unicode.isUpper c || Unicode.isTitle c)) = true := by decide +kernel
  have := List.all_eq_true.mp all c this
  simp only [Bool.and_eq_true, Bool.not_eq_true'] at this
  exact ⟨this.1.1, this.1.2, this.2⟩
theorem low_ascii {w : List Nat} (h : Low w) : Txt.isascii (S w) = true := by
  unfold Txt.isascii
  rw [← Array.all_toList, List.all_eq_true]
  exact fun c hc => decide_eq_true (by have := h c hc; omega)
theorem low_alpha {w : List Nat} (h : Low w) (ne : w ≠ []) : Txt.isalpha (S w) = true := by
  unfold Txt.isalpha
  rw [← Array.all_toList, S_len, decide_eq_true (List.length_pos_iff.mpr ne), Bool.true_and, List.all_eq_true]
  exact fun c hc => (low_cases (h c hc)).1
theorem low_lower {w : List Nat} (h : Low w) (ne : w ≠ []) : Txt.islower (S w) = true := by
  unfold Txt.islower
  rw [← Array.any_toList, ← Array.any_toList, Bool.and_eq_true]
  constructor
  · obtain ⟨c, hc⟩ := List.exists_mem_of_ne_nil w ne
    exact List.any_eq_true.mpr ⟨c, hc, (low_cases (h c hc)).2.1⟩
  · rw [Bool.not_eq_true', List.any_eq_false]
    exact fun c hc => by rw [(low_cases (h c hc)).2.2]; exact Bool.false_ne_true
section
variable {P : Program} {w : World} {K : PySem.W.Frag} {mg : Str → Option Value} {base : Heap} {CK C : Addr}
/-! ### checks -/
def sp_is_whole : Sp := fun vs H Q _ => ∃ v, vs = [v] ∧ Kn H v ∧ Q (.bl (isW v)) H
theorem c_is_whole (T : Txt K mg CK C) : C8.Cal P w K mg base 1 "is_whole" sp_is_whole [] := by
  refine calF T.d_is_whole sc_is_whole (fun vs H Q E h => ?_) (fun f cdv A outer s H vs Q E hr h => ?_)
  · obtain ⟨v, rfl, _⟩ := h; rfl
  · obtain ⟨v, rfl, k, q⟩ := h
    refine ⟨_, (pss_one (ps_ret (pe_and (pe_callB call_isK (by rfl) T.m_isinstance (by decide +kernel) (pa_cons (pv 0) (pa_cons (pe_bltn (v := .ty "int") (by rfl) T.m_int (by decide +kernel) rfl) pa_nil))) (pe_one (pe_not (pe_callB call_isK (by rfl) T.m_isinstance (by decide +kernel) (pa_cons (pv 0) (pa_cons (pe_bltn (v := .ty "bool") (by rfl) T.m_bool (by decide +kernel) rfl) pa_nil)))))))), ?_⟩
    refine ⟨v, rfl, v, "int", _, rfl, k, kit_int k, _, rfl, ite2 (fun e => ?_) (fun e => ?_)⟩
    · refine ⟨v, rfl, v, "bool", _, rfl, k, kit_bool k, _, rfl, ?_⟩
      rw [show (!isBo v) = isW v by cases v <;> first | rfl | (exact absurd e Bool.false_ne_true)]
      exact q
    · rw [show false = isW v by cases v <;> first | rfl | (exact absurd rfl e)]
      exact q
def sp_is_count : Sp := fun vs H Q _ => ∃ v, vs = [v] ∧ Kn H v ∧ Q (.bl (isC v)) H
theorem c_is_count (T : Txt K mg CK C) : C8.Cal P w K mg base 2 "is_count" sp_is_count [] := by
  refine calF T.d_is_count sc_is_count (fun vs H Q E h => ?_) (fun f cdv A outer s H vs Q E hr h => ?_)
  · obtain ⟨v, rfl, _⟩ := h; rfl
  · obtain ⟨v, rfl, k, q⟩ := h
    refine ⟨_, (pss_one (ps_ret (pe_and (C8.pe_c (c_is_whole T) hr (by decide) (by rfl) (pa_cons (pv 0) pa_nil)) (pe_one (pe_cmpR op_ge (pv 0) pe_int (nomark _)))))), ?_⟩
    refine ⟨v, rfl, v, rfl, k, _, rfl, ite2 (fun e => ?_) (fun e => ?_)⟩
    · cases v <;> first | (exact absurd e Bool.false_ne_true) | exact ⟨_, rfl, _, 0, rfl, rfl, q⟩
    · rw [show false = isC v by cases v <;> first | rfl | (exact absurd rfl e)]
      exact q
def sp_is_within : Sp := fun vs H Q _ => ∃ i lo hi : Int, vs = [.int i, .int lo, .int hi] ∧ Q (.bl (decide (lo ≤ i) && decide (i ≤ hi))) H
theorem c_is_within (T : Txt K mg CK C) : C8.Cal P w K mg base 2 "is_within" sp_is_within [] := by
  refine calF T.d_is_within sc_is_within (fun vs H Q E h => ?_) (fun f cdv A outer s H vs Q E hr h => ?_)
  · obtain ⟨i, lo, hi, rfl, _⟩ := h; rfl
  · obtain ⟨i, lo, hi, rfl, q⟩ := h
    refine ⟨_, (pss_one (ps_ret (pe_and (C8.pe_c (c_is_whole T) hr (by decide) (by rfl) (pa_cons (pv 0) pa_nil)) (pe_one (pe_chain op_le op_le (pv 1) (pv 0) (pv 2)))))), ?_⟩
    refine ⟨.int i, rfl, .int i, rfl, .int i, _, rfl, iteT ?_⟩
    refine ⟨_, rfl, _, rfl, lo, i, rfl, rfl, _, rfl, ite2 (fun e => ?_) (fun e => ?_)⟩
    · refine ⟨_, rfl, i, hi, rfl, rfl, ?_⟩
      rw [e, Bool.true_and] at q
      exact q
    · rw [Bool.not_eq_true] at e
      rw [e, Bool.false_and] at q
      exact q
def sp_need_within : Sp := fun vs H Q _ => ∃ i lo hi : Int, vs = [.int i, .int lo, .int hi] ∧ lo ≤ i ∧ i ≤ hi ∧ Q .non H
theorem c_need_within (T : Txt K mg CK C) : C8.Cal P w K mg base 3 "need_within" sp_need_within [] := by
  refine calF T.d_need_within sc_need_within (fun vs H Q E h => ?_) (fun f cdv A outer s H vs Q E hr h => ?_)
  · obtain ⟨i, lo, hi, rfl, _⟩ := h; rfl
  · obtain ⟨i, lo, hi, rfl, h1, h2, q⟩ := h
    refine ⟨_, (pss_one (ps_if (pt_not (pt_val (C8.pe_c (c_is_within T) hr (by decide) (by rfl) (pa_cons (pv 0) (pa_cons (pv 1) (pa_cons (pv 2) pa_nil))))))
    (pss_one ps_never)
    pss_nil)), ?_⟩
    refine ⟨_, rfl, _, rfl, _, rfl, i, lo, hi, rfl, _, rfl, ?_⟩
    rw [decide_eq_true h1, decide_eq_true h2]
    exact iteF q
theorem len_line {w : List Nat} (h : w.length ≤ 1000000) : (S w).length ≤ sizeLine := by rw [S_len, sizeLine_eq]; omega
def sp_is_lettered : Sp := fun vs H Q _ => ∃ (z : List Nat) (m : Nat), vs = [.str (S z), .int m] ∧ z.length ≤ 1000000 ∧ Low z ∧ Q (.bl (decide (z.length ≤ m))) H
theorem S_nil {z : List Nat} (h : (S z : Str) = "") : z = [] := by
  have := congrArg Str.length h
  rw [S_len] at this
  exact List.length_eq_zero_iff.mp this
theorem c_is_lettered (T : Txt K mg CK C) : C8.Cal P w K mg base 1 "is_lettered" sp_is_lettered [] := by
  refine calF T.d_is_lettered sc_is_lettered (fun vs H Q E h => ?_) (fun f cdv A outer s H vs Q E hr h => ?_)
  · obtain ⟨_, _, rfl, _⟩ := h; rfl
  · obtain ⟨z, m, rfl, hl, lw, q⟩ := h
    refine ⟨_, (pss_cons (ps_if (PW.pt (pw_or (pt_not (pt_val (pe_callB call_isK (by rfl) T.m_isinstance (by decide +kernel) (pa_cons (pv 0) (pa_cons (pe_bltn (v := .ty "str") (by rfl) T.m_str (by decide +kernel) rfl) pa_nil))))) (pw_or1 (pt_cmpR op_gt (pe_callB call_len_str (by rfl) T.m_len (by decide +kernel) (pa_cons (pv 0) pa_nil)) (pv 1) (nomark _)))))
    (pss_one (ps_ret pe_bl))
    pss_nil)
    (pss_one (ps_ret (pe_or (pe_cmpR op_eq (pv 0) pe_str (nomark _)) (pe_one (pe_and (pe_m0 PySem.F.slot_str_isascii PySem.F.type_str_isascii mt_isascii (pv 0)) (pe_and (pe_m0 PySem.F.slot_str_isalpha PySem.F.type_str_isalpha mt_isalpha (pv 0)) (pe_one (pe_m0 PySem.F.slot_str_islower PySem.F.type_str_islower mt_islower (pv 0)))))))))), ?_⟩
    refine ⟨_, rfl, .str (S z), "str", true, rfl, .str _, by show kitB "str" "str" = some true; decide +kernel, _, rfl, iteF ?_⟩
    refine ⟨_, rfl, S z, rfl, len_line hl, _, rfl, _, m, rfl, rfl, _, rfl, ?_⟩
    rw [S_len]
    by_cases hm : ¬ z.length ≤ m
    · rw [decide_eq_false hm] at q
      rw [decide_eq_true (show (z.length : Int) > m by omega)]
      exact iteT q
    rw [decide_eq_true (show z.length ≤ m by omega)] at q
    rw [decide_eq_false (show ¬ (z.length : Int) > m by omega)]
    refine iteF ⟨_, rfl, rfl, _, rfl, ite2 (fun e => q) fun e => ?_⟩
    have ne : z ≠ [] := fun y => e (by rw [y]; decide +kernel)
    refine ⟨_, rfl, ⟨_, rfl⟩, _, rfl, rfl, trivial, _, rfl, ?_⟩
    rw [low_ascii lw]
    refine iteT ⟨_, rfl, ⟨_, rfl⟩, _, rfl, rfl, trivial, _, rfl, ?_⟩
    rw [low_alpha lw ne]
    refine iteT ⟨_, rfl, ⟨_, rfl⟩, _, rfl, rfl, trivial, ?_⟩
    rw [low_lower lw ne]
    exact q
def sp_need_many : Sp := fun vs H Q _ => ∃ i : Int, vs = [.int i] ∧ 0 ≤ i ∧ i ≤ 3 ∧ Q .non H
theorem c_need_many (T : Txt K mg CK C) : C8.Cal P w K mg base 4 "need_many" sp_need_many [] := by
  refine calF T.d_need_many sc_need_many (fun vs H Q E h => ?_) (fun f cdv A outer s H vs Q E hr h => ?_)
  · obtain ⟨v, rfl, _⟩ := h; rfl
  · obtain ⟨i, rfl, h1, h2, q⟩ := h
    refine ⟨_, (pss_one (ps_expr (C8.pe_c (c_need_within T) hr (by decide) (by rfl) (pa_cons (pv 0) (pa_cons pe_int (pa_cons (C8.pe_gc (by rfl) T.k_MOST_UNKNOWNS) pa_nil)))))), ?_⟩
    exact ⟨_, rfl, i, 0, 3, rfl, h1, h2, q⟩
/-- what is_form_for says of a value -/
def formB (H : Hp) (m : Int) : V → Bool
  | .ref a => match H a with
    | some (.tup xs) => decide ((xs.length : Int) = m + 1) && xs.all isC
    | _ => false
  | _ => false
theorem formB_tup {H : Hp} {m : Int} {a : Addr} {xs : List V} (h : H a = some (.tup xs)) : formB H m (.ref a) = (decide ((xs.length : Int) = m + 1) && xs.all isC) := by simp only [formB, h]
def sp_is_form_for : Sp := fun vs H Q _ => ∃ (m : Int) (v : V), vs = [.int m, v] ∧ Kn H v ∧ (∀ a xs, v = .ref a → H a = some (.tup xs) → xs.length < sizeLine ∧ ∀ x ∈ xs, Kn H x) ∧ ∀ H', Same H H' → Q (.bl (formB H m v)) H'
theorem c_is_form_for (T : Txt K mg CK C) : C8.Cal P w K mg base 3 "is_form_for" sp_is_form_for [] := by
  refine calF T.d_is_form_for sc_is_form_for (fun vs H Q E h => ?_) (fun f cdv A outer s H vs Q E hr h => ?_)
  · obtain ⟨_, _, rfl, _⟩ := h; rfl
  · obtain ⟨m, v, rfl, kn, ht, q⟩ := h
    refine ⟨_, (pss_one (ps_ret (pe_and (pe_callB call_isK (by rfl) T.m_isinstance (by decide +kernel) (pa_cons (pv 1) (pa_cons (pe_bltn (v := .ty "tuple") (by rfl) T.m_tuple (by decide +kernel) rfl) pa_nil))) (pe_and (pe_cmpR op_eq (pe_callB call_len_seq (by rfl) T.m_len (by decide +kernel) (pa_cons (pv 1) pa_nil)) (pe_op op_add (pv 0) pe_int) (nomark _)) (pe_one (pe_callB (cr_all rfl) (by rfl) T.m_all (by decide +kernel) (pa_cons (pe_lc (own := [("number", 2)]) (by rfl) sc_is_form_for.nd (pi_tup (pv 1)) (blkOk_by (N := ["many", "value", "number"]) (sc := C8.fnScope (topS 23)) (own := [("number", 2)]) (by decide +kernel)) (fun _ _ _ _ _ => (pg_name (i := 2) sc_is_form_for.nd rfl (Or.inl rfl))) (fun _ _ _ _ _ => pts_nil) (fun _ _ _ _ _ => (C8.pe_c (c_is_count T) hr (by decide) (by rfl) (pa_cons (pv 2) pa_nil)))) pa_nil))))))), ?_⟩
    refine ⟨_, rfl, v, "tuple", _, rfl, kn, kit_tuple kn, _, rfl, ite2 (fun e => ?_) (fun e => ?_)⟩
    · cases kn <;> first | (exact absurd e Bool.false_ne_true) | skip
      · rename_i a xs ha
        simp only [isTu, ha] at e
        exact absurd e (by decide)
      · rename_i a xs ha
        obtain ⟨hl, hk⟩ := ht a xs rfl ha
        rw [formB_tup ha] at q
        refine ⟨_, rfl, a, xs, rfl, .inr (.inl (.inl ha)), _, rfl, _, _, rfl, rfl, rfl, _, rfl, ite2 (fun e => ?_) (fun e => ?_)⟩
        · have e' : (xs.length : Int) = m + 1 := V.int.inj (of_decide_eq_true e)
          rw [decide_eq_true e', Bool.true_and] at q
          refine ⟨_, rfl, a, rfl, ⟨xs, .inl (.inl ha)⟩, ?_⟩
          refine fun D hD => lcT_map (fun x => .bl (isC x)) ha hl (fun i x H' R hx s q' => ?_) hD fun H' s hL => ?_
          · exact ⟨rfl, x, rfl, x, rfl, (hk x (List.mem_of_getElem? hx)).same s, q' _ (Same.refl _)⟩
          refine ⟨D, xs.map isC, rfl, .inl (.inl (by rw [hL, List.map_map]; rfl)), ?_⟩
          rw [List.all_map]
          exact q H' s
        · have e' : ¬ (xs.length : Int) = m + 1 := fun z => e (by rw [z]; exact decide_eq_true rfl)
          rw [decide_eq_false e', Bool.false_and] at q
          exact q H (Same.refl _)
    · rw [show formB H m v = false by
        cases kn <;> first | rfl | skip
        · rename_i a xs ha
          simp only [formB, ha]
        · rename_i a xs ha
          exact absurd (isTu_tup ha) e] at q
      exact q H (Same.refl _)

theorem kn_nats {H : Hp} {ns : List Nat} : ∀ x ∈ ns.map (fun n : Nat => V.int (n : Nat)), Kn H x := fun x hx => by
  obtain ⟨i, _, rfl⟩ := List.mem_map.mp hx
  exact .int _
/-- a form in the heap -/
def FT (H : Hp) (a : Addr) (f : F) : Prop := H a = some (.tup (f.map fun n : Nat => V.int (n : Nat)))
theorem FT.same {H H' : Hp} {a : Addr} {f : F} (h : FT H a f) (s : Same H H') : FT H' a f := s _ _ h
theorem formB_FT {H : Hp} {m : Nat} {a : Addr} {f : F} (h : FT H a f) (hl : f.length = m + 1) : formB H m (.ref a) = true := by
  rw [formB_tup h, List.length_map, hl, decide_eq_true (show ((m + 1 : Nat) : Int) = (m : Int) + 1 by omega), Bool.true_and, List.all_map, List.all_eq_true]
  exact fun x hx => decide_eq_true (show (0 : Int) ≤ ((x : Nat) : Int) by omega)
end
end K39

set_option Elab.async false
set_option linter.all false
set_option maxRecDepth 100000
set_option maxHeartbeats 4000000
namespace K39
open PySem PySem.Spec PyProof.Rows L2 CK SX NM
theorem re_st {t : TS} {D : Ends} {σ σ' : L2.St} {H : Hp} (e : σ = σ') (h : t D σ' H) : t D σ H := by
  subst e
  exact h
theorem slice_mid {a : List Nat} {i j : Nat} (h : i ≤ j) (hj : j ≤ a.length) : Txt.slice (S a) (some (i : Int)) (some (j : Int)) = S ((a.drop i).take (j - i)) := by
  have e := beq_iff_eq.mp (slice_closesL (x := S a) (i := (i : Int)) (j := (j : Int)) (by omega) (by omega) (by rw [S_len]; omega))
  refine e.trans (TL.ext_tl ?_)
  show (a.drop (i : Int).toNat).take ((j : Int) - (i : Int)).toNat = (a.drop i).take (j - i)
  congr 1
  omega
theorem lcp_mid {a b : WM.W} {lo mid : Nat} (h1 : lo ≤ WM.lcp a b) (h2 : lo ≤ mid) (ha : mid ≤ a.length) (hb : mid ≤ b.length) :
    (a.drop lo).take (mid - lo) = (b.drop lo).take (mid - lo) ↔ mid ≤ WM.lcp a b := by
  have sp : ∀ z : WM.W, z.take mid = z.take lo ++ (z.drop lo).take (mid - lo) := fun z => by
    have : mid = lo + (mid - lo) := by omega
    conv => lhs; rw [this]
    rw [List.take_add]
  rw [← WM.lcp_iff ha hb, sp a, sp b, WM.lcp_take a b lo h1]
  constructor
  · intro h
    rw [h]
  · intro h
    exact List.append_cancel_left h
section
variable {X : Cx}
/-- s * n, up to a million letters -/
theorem op_repM : OpR X (binaryOp .Mult) (fun x y H Q => ∃ (z : List Nat) (n : Nat), x = .str (S z) ∧ y = .int n ∧ n ≤ 1000000 ∧ z.length ≤ 1000000 ∧ n * z.length ≤ 1000000 ∧ Q (.str (S (List.replicate n z).flatten)) H) := by
  intro pins s σ H x y v u Q I rx ry h
  obtain ⟨z, n, rfl, rfl, hn, hz, hm, q⟩ := h
  obtain ⟨t, rfl⟩ := rx
  obtain ⟨t', rfl⟩ := ry
  have hl : (List.replicate n z).flatten.length = n * z.length := by simp
  refine P.mul_str (by simp; omega) (fun h1 h2 => ?_) (fun h1 h2 => ?_) ?_
  · rw [S_len]
    have hn0 : (0 : Int) < n := by omega
    have h3 : (1000000 : Int) ≤ (2 ^ 63 - 1) / (n : Int) := by
      refine (Int.le_ediv_iff_mul_le hn0).mpr ?_
      have : (1000000 : Int) * n ≤ 1000000 * 1000000 := Int.mul_le_mul_of_nonneg_left (by omega) (by decide)
      omega
    omega
  · rw [S_len, Int.toNat_natCast, Nat.mul_comm]
    have : n * z.length ≤ sizeLine := by rw [sizeLine_eq]; omega
    unfold Builtin.Str.tooLong
    simp
    omega
  · by_cases h1 : (n : Int) < 1
    · rw [if_pos h1]
      have e : n = 0 := by omega
      subst e
      exact ⟨by decide, .str _, H, I.tok _, ⟨_, rfl⟩, q⟩
    · rw [if_neg h1]
      by_cases h2 : ((n : Int) == 1 || (S z).length == 0) = true
      · rw [if_pos h2]
        have e : (List.replicate n z).flatten = z := by
          rw [Bool.or_eq_true, beq_iff_eq, beq_iff_eq, S_len] at h2
          rcases h2 with h2 | h2
          · have : n = 1 := by omega
            subst this
            simp
          · rw [List.length_eq_zero_iff.mp h2]
            simp
        rw [e] at q
        exact ⟨.str _, H, I, ⟨_, rfl⟩, q⟩
      · rw [if_neg h2]
        have e : (⟨(List.replicate (n : Int).toNat (S z).cps).foldl (· ++ ·) #[]⟩ : Str) = S (List.replicate n z).flatten := by
          refine TL.ext_tl ?_
          show ((List.replicate (n : Int).toNat (S z).cps).foldl (· ++ ·) #[]).toList = _
          rw [Int.toNat_natCast, foldl_arr]
          rfl
        rw [e]
        exact ⟨by rw [S_len, hl, sizeLine_eq]; omega, .str _, H, I.tok _, ⟨_, rfl⟩, q⟩
end
section
variable {P : Program} {w : World} {K : PySem.W.Frag} {mg : Str → Option Value} {base : Heap} {CK C : Addr}
/-! ### words -/
theorem fmodZ (i : Int) {n : Nat} (h : n ≠ 0) : ∃ k : Nat, i.fmod (n : Int) = k ∧ k < n := by
  have h0 : 0 ≤ i.fmod (n : Int) := Int.fmod_nonneg_of_pos i (by omega)
  have h1 : i.fmod (n : Int) < n := Int.fmod_lt_of_pos i (by omega)
  exact ⟨(i.fmod n).toNat, by omega, by omega⟩
def rotZ (z : List Nat) (i : Int) : List Nat := z.drop (i.fmod (z.length : Int)).toNat ++ z.take (i.fmod (z.length : Int)).toNat
theorem fmod_neg (k : Nat) {n : Nat} (h : 0 < n) : (-(k : Int)).fmod (n : Int) = (((n - k % n) % n : Nat) : Int) := by
  have hm := Nat.mod_lt k h
  have hd := Nat.mod_add_div k n
  rw [Int.fmod_eq_emod_of_nonneg _ (by omega)]
  have e : (-(k : Int)) = ((n - k % n : Nat) : Int) + (n : Int) * (-((k / n : Nat) : Int) - 1) := by
    have : ((n - k % n : Nat) : Int) = (n : Int) - ((k % n : Nat) : Int) := by omega
    rw [this]
    have h2 : (k : Int) = ((k % n : Nat) : Int) + (n : Int) * ((k / n : Nat) : Int) := by
      have := congrArg (fun z : Nat => (z : Int)) hd
      simp only [Int.natCast_add, Int.natCast_mul] at this
      exact this.symm
    rw [Int.mul_sub, Int.mul_neg, Int.mul_one]
    omega
  rw [e, Int.add_mul_emod_self_left]
  rfl
theorem rotZ_neg {z : List Nat} (h : z ≠ []) (k : Nat) : rotZ z (-(k : Int)) = rotR z k := by
  have n0 := List.length_pos_iff.mpr h
  unfold rotZ rotR
  rw [fmod_neg k n0, Int.toNat_natCast]
  by_cases e : k % z.length = 0
  · rw [e, Nat.sub_zero, Nat.mod_self]
    simp
  · have hm := Nat.mod_lt k n0
    rw [Nat.mod_eq_of_lt (show z.length - k % z.length < z.length by omega)]
def sp_turned : Sp := fun vs H Q _ => ∃ (z : List Nat) (k : Int), vs = [.str (S z), .int k] ∧ z.length ≤ 1000000 ∧ z ≠ [] ∧ Q (.str (S (rotZ z k))) H
theorem c_turned_word (T : Txt K mg CK C) : C8.Cal P w K mg base 1 "turned_word" sp_turned [] := by
  refine calF T.d_turned_word sc_turned_word (fun vs H Q E h => ?_) (fun f cdv A outer s H vs Q E hr h => ?_)
  · obtain ⟨_, _, rfl, _⟩ := h; rfl
  · obtain ⟨z, k, rfl, hl, ne, q⟩ := h
    have n0 := List.length_pos_iff.mpr ne
    refine ⟨_, (pss_cons (ps_if (pt_not (pt_truth (pv 0) (by intro _; rfl)))
    (pss_one (ps_ret (pv 0)))
    pss_nil)
    (pss_cons (ps_set (i := 2) sc_turned_word.nd rfl (Or.inl rfl) (pe_op op_modN (pv 1) (pe_callB call_len_str (by rfl) T.m_len (by decide +kernel) (pa_cons (pv 0) pa_nil))))
    (pss_one (ps_ret (pe_op op_add_str (pe_slice C8.sl_txt (pv 0) (po_some (pv 2)) po_none) (pe_slice C8.sl_txt (pv 0) po_none (po_some (pv 2)))))))), ?_⟩
    refine ⟨_, rfl, true, ⟨len_line hl, by rw [S_len]; symm; rw [bne_iff_ne]; omega⟩, iteF ?_⟩
    obtain ⟨m, hm, hlt⟩ := fmodZ k (show z.length ≠ 0 by omega)
    refine ⟨_, rfl, _, rfl, S z, rfl, len_line hl, k, z.length, rfl, congrArg (fun n : Nat => V.int n) (S_len z), by omega, ?_⟩
    refine ⟨_, rfl, _, rfl, m, congrArg V.int hm, S z, rfl, len_line hl, _, rfl, _, rfl, m, congrArg V.int hm, S z, rfl, len_line hl, ?_⟩
    rw [SX.slice_from (by omega), SX.slice_to (by omega), Int.toNat_natCast]
    refine ⟨_, _, rfl, rfl, ?_, ?_⟩
    · rw [S_len, S_len, List.length_drop, List.length_take, sizeLine_eq]
      omega
    · rw [S_cat]
      unfold rotZ at q
      rw [hm, Int.toNat_natCast] at q
      exact q
theorem stretch_tail {u : List Nat} (h : u ≠ []) (n k : Nat) (hk : (u.length - n % u.length) % u.length + n ≤ u.length * k) :
    ((List.replicate k u).flatten.drop ((u.length - n % u.length) % u.length)).take n = tailE u n := by
  have n0 := List.length_pos_iff.mpr h
  have l : (List.replicate k u).flatten.length = u.length * k := WM.pw_len u k
  refine List.ext_getElem? fun i => ?_
  by_cases hi : i < n
  · rw [List.getElem?_take_of_lt hi, List.getElem?_drop, tailE_get h hi]
    have := WM.pw_get h k ((u.length - n % u.length) % u.length + i) (by omega)
    unfold WM.pw at this
    rw [this]
    congr 1
    rw [Nat.mod_add_mod, Nat.add_comm]
  · rw [List.getElem?_eq_none (by rw [List.length_take]; omega), List.getElem?_eq_none (by rw [tailE_len h]; omega)]
def sp_stretch : Sp := fun vs H Q _ => ∃ (u : List Nat) (n : Nat), vs = [.str (S u), .int (-(n : Int)), .int n] ∧ u ≠ [] ∧ u.length ≤ 100000 ∧ n ≤ 100000 ∧ Q (.str (S (tailE u n))) H
theorem c_stretch (T : Txt K mg CK C) : C8.Cal P w K mg base 1 "stretch" sp_stretch [] := by
  refine calF T.d_stretch sc_stretch (fun vs H Q E h => ?_) (fun f cdv A outer s H vs Q E hr h => ?_)
  · obtain ⟨_, _, rfl, _⟩ := h; rfl
  · obtain ⟨u, n, rfl, ne, hu, hn, q⟩ := h
    have n0 := List.length_pos_iff.mpr ne
    refine ⟨_, (pss_cons (ps_set (i := 3) sc_stretch.nd rfl (Or.inl rfl) (pe_op op_modN (pv 1) (pe_callB call_len_str (by rfl) T.m_len (by decide +kernel) (pa_cons (pv 0) pa_nil))))
    (pss_one (ps_ret (pe_slice C8.sl_txt (pe_op op_repM (pv 0) (pe_op op_add (pe_op op_fdivZ (pe_op op_add (pv 3) (pv 2)) (pe_callB call_len_str (by rfl) T.m_len (by decide +kernel) (pa_cons (pv 0) pa_nil))) pe_int)) (po_some (pv 3)) (po_some (pe_op op_add (pv 3) (pv 2))))))), ?_⟩
    have hm := fmod_neg n n0
    generalize ha : (u.length - n % u.length) % u.length = a at hm
    have alt : a < u.length := by rw [← ha]; exact Nat.mod_lt _ n0
    refine ⟨_, rfl, _, rfl, S u, rfl, len_line (by omega), -(n : Int), u.length, rfl, congrArg (fun n : Nat => V.int n) (S_len u), by omega, ?_⟩
    have hdm := Nat.div_add_mod (a + n) u.length
    have hml := Nat.mod_lt (a + n) n0
    have dl : (a + n) / u.length ≤ a + n := Nat.div_le_self _ _
    refine ⟨_, rfl, _, rfl, _, rfl, a, n, congrArg V.int hm, rfl, _, rfl, S u, rfl, len_line (by omega), a + n, u.length, congrArg V.int (by omega), congrArg (fun n : Nat => V.int n) (S_len u), by omega, by omega, _, _, rfl, rfl, u, (a + n) / u.length + 1, rfl, congrArg V.int (by omega), by omega, by omega, ?_, ?_⟩
    · rw [Nat.add_mul, Nat.one_mul, Nat.mul_comm]
      omega
    · have l : (List.replicate ((a + n) / u.length + 1) u).flatten.length = u.length * ((a + n) / u.length + 1) := WM.pw_len u _
      have hle : a + n ≤ u.length * ((a + n) / u.length + 1) := by rw [Nat.mul_succ]; omega
      refine ⟨_, rfl, a, congrArg V.int hm, _, rfl, _, rfl, a, n, congrArg V.int hm, rfl, ((a + n : Nat) : Int), congrArg V.int (by omega), S _, rfl, ?_, ?_⟩
      · rw [S_len, l, Nat.mul_succ, sizeLine_eq]
        omega
      · rw [slice_mid (by omega) (by rw [l]; exact hle), show a + n - a = n by omega, ← ha, stretch_tail ne n _ (by rw [ha]; exact hle)]
        exact q
def sp_alike : Sp := fun vs H Q _ => ∃ (a b : List Nat), vs = [.str (S a), .str (S b)] ∧ a.length ≤ 1000000 ∧ b.length ≤ 1000000 ∧ Q (.int (WM.lcp a b : Nat)) H
theorem c_alike_ahead (T : Txt K mg CK C) : C8.Cal P w K mg base 1 "alike_ahead" sp_alike [] := by
  refine calF T.d_alike_ahead sc_alike_ahead (fun vs H Q E h => ?_) (fun f cdv A outer s H vs Q E hr h => ?_)
  · obtain ⟨_, _, rfl, _⟩ := h; rfl
  · obtain ⟨a, b, rfl, ha, hb, q⟩ := h
    refine ⟨_, (pss_cons (ps_par (i := 2) (j := 3) (by rfl) sc_alike_ahead.nd rfl rfl (by decide) rfl rfl (pa_cons pe_int (pa_cons (pe_callB (call_min2 rfl) (by rfl) T.m_min (by decide +kernel) (pa_cons (pe_callB call_len_str (by rfl) T.m_len (by decide +kernel) (pa_cons (pv 0) pa_nil)) (pa_cons (pe_callB call_len_str (by rfl) T.m_len (by decide +kernel) (pa_cons (pv 1) pa_nil)) pa_nil))) pa_nil)) (by rfl))
    (pss_cons (ps_if (pt_cmpR op_eq (pe_slice C8.sl_txt (pv 0) po_none (po_some (pv 3))) (pe_slice C8.sl_txt (pv 1) po_none (po_some (pv 3))) (nomark _))
    (pss_one (ps_ret (pv 3)))
    pss_nil)
    (pss_cons (ps_while PassesOwn.never (pt_cmpR op_gt (pe_op op_sub (pv 3) (pv 2)) pe_int (nomark _))
    (pss_cons (ps_set (i := 4) sc_alike_ahead.nd rfl (Or.inl rfl) (pe_op op_fdivZ (pe_op op_add (pv 2) (pv 3)) pe_int))
    (pss_one (ps_if (pt_cmpR op_eq (pe_slice C8.sl_txt (pv 0) (po_some (pv 2)) (po_some (pv 4))) (pe_slice C8.sl_txt (pv 1) (po_some (pv 2)) (po_some (pv 4))) (nomark _))
    (pss_one (ps_set (i := 2) sc_alike_ahead.nd rfl (Or.inl rfl) (pv 4)))
    (pss_one (ps_set (i := 3) sc_alike_ahead.nd rfl (Or.inl rfl) (pv 4)))))))
    (pss_one (ps_ret (pv 2)))))), ?_⟩
    have lle := WM.lcp_le a b
    obtain ⟨m, hma, hmb, hm, hmm⟩ : ∃ m : Nat, m ≤ a.length ∧ m ≤ b.length ∧ (if (((S b).length : Nat) : Int) < (((S a).length : Nat) : Int) then (((S b).length : Nat) : Int) else (((S a).length : Nat) : Int)) = m ∧ (a.length ≤ m ∨ b.length ≤ m) := by
      rw [S_len, S_len]
      by_cases z : (b.length : Int) < a.length
      · exact ⟨b.length, by omega, by omega, if_pos z, .inr (Nat.le_refl _)⟩
      · exact ⟨a.length, by omega, by omega, if_neg z, .inl (Nat.le_refl _)⟩
    refine ⟨_, rfl, S a, rfl, len_line ha, _, rfl, S b, rfl, len_line hb, _, _, rfl, .int 0, .int m, congrArg (fun z => [V.int 0, V.int z]) hm, ?_⟩
    refine ⟨_, rfl, _, rfl, m, rfl, S a, rfl, len_line ha, _, rfl, _, rfl, m, rfl, S b, rfl, len_line hb, rfl, _, rfl, ?_⟩
    rw [SX.slice_to (by omega), SX.slice_to (by omega), Int.toNat_natCast]
    refine ite2 (fun e => ?_) (fun e => ?_)
    · have e' := S_inj (V.str.inj (of_decide_eq_true e))
      have := WM.le_lcp a b m hma hmb e'
      refine ⟨_, rfl, ?_⟩
      rw [show m = WM.lcp a b by omega]
      exact q
    · have e' : WM.lcp a b < m := by
        by_cases z : WM.lcp a b < m
        · exact z
        · exact absurd (decide_eq_true (congrArg (fun l => V.str (S l)) (WM.lcp_take a b m (by omega)))) e
      refine while_by (fun σ H' => H' = H ∧ ∃ (lo hi : Nat) (zl zh : Int) (y : Option V), σ = [some (.str (S a)), some (.str (S b)), some (.int zl), some (.int zh), y] ∧ zl = lo ∧ zh = hi ∧ lo ≤ WM.lcp a b ∧ WM.lcp a b < hi ∧ hi ≤ m)
        (fun σ _ => match σ with | [_, _, some (.int zl), some (.int zh), _] => (zh - zl).toNat | _ => 0) ?_ (fun σ H' p => ?_) ?_
      · exact ⟨rfl, 0, m, _, _, none, rfl, rfl, rfl, Nat.zero_le _, e', Nat.le_refl _⟩
      · obtain ⟨rfl, lo, hi, zl, zh, y, rfl, rfl, rfl, h1, h2, h3⟩ := p
        refine ⟨_, rfl, _, rfl, _, _, rfl, rfl, _, _, rfl, rfl, _, rfl, ite2 (fun c => ?_) (fun c => ?_)⟩
        · have c' : lo + 1 < hi := by
            have := of_decide_eq_true c
            omega
          refine ⟨_, rfl, _, rfl, _, _, rfl, rfl, lo + hi, 2, congrArg V.int (by omega), rfl, by decide, by decide, ?_⟩
          have m1 : lo < (lo + hi) / 2 := by omega
          have m2 : (lo + hi) / 2 < hi := by omega
          generalize (lo + hi) / 2 = md at m1 m2
          refine ⟨_, rfl, _, rfl, lo, rfl, _, rfl, md, rfl, S a, rfl, len_line ha, _, rfl, _, rfl, lo, rfl, _, rfl, md, rfl, S b, rfl, len_line hb, rfl, _, rfl, ?_⟩
          rw [slice_mid (by omega) (by omega), slice_mid (by omega) (by omega)]
          have iff := lcp_mid (a := a) (b := b) (lo := lo) (mid := md) h1 (by omega) (by omega) (by omega)
          refine ite2 (fun d => ?_) (fun d => ?_)
          · have d' := iff.mp (S_inj (V.str.inj (of_decide_eq_true d)))
            refine ⟨_, rfl, ⟨rfl, md, hi, _, _, _, rfl, rfl, rfl, d', h2, h3⟩, ?_⟩
            show ((hi : Int) - ((md : Nat) : Int)).toNat < ((hi : Int) - (lo : Int)).toNat
            omega
          · have d' : WM.lcp a b < md := by
              by_cases z : WM.lcp a b < md
              · exact z
              · exact absurd (decide_eq_true (congrArg (fun l => V.str (S l)) (iff.mpr (by omega)))) d
            refine ⟨_, rfl, ⟨rfl, lo, md, _, _, _, rfl, rfl, rfl, h1, d', by omega⟩, ?_⟩
            show (((md : Nat) : Int) - (lo : Int)).toNat < ((hi : Int) - (lo : Int)).toNat
            omega
        · have c' : lo = WM.lcp a b := by
            have : ¬ ((hi : Int) - lo > 1) := fun z => c (decide_eq_true z)
            omega
          subst c'
          exact ⟨_, rfl, q⟩
      · intro σ H' Q1 Q2 hq h
        obtain ⟨a1, h1, a2, h2, a3, a4, h3, h4, a5, a6, h5, h6, k, h7, h⟩ := h
        exact ⟨a1, h1, a2, h2, a3, a4, h3, h4, a5, a6, h5, h6, k, h7, hq _ _ h⟩
def sp_behind : Sp := fun vs H Q _ => ∃ (a b : List Nat), vs = [.str (S a), .str (S b)] ∧ a.length ≤ 1000000 ∧ b.length ≤ 1000000 ∧ Q (.int (WM.lcp a.reverse b.reverse : Nat)) H
theorem c_alike_behind (T : Txt K mg CK C) : C8.Cal P w K mg base 2 "alike_behind" sp_behind [] := by
  refine calF T.d_alike_behind sc_alike_behind (fun vs H Q E h => ?_) (fun f cdv A outer s H vs Q E hr h => ?_)
  · obtain ⟨_, _, rfl, _⟩ := h; rfl
  · obtain ⟨a, b, rfl, ha, hb, q⟩ := h
    refine ⟨_, (pss_one (ps_ret (C8.pe_c (c_alike_ahead T) hr (by decide) (by rfl) (pa_cons (pe_revS (pv 0)) (pa_cons (pe_revS (pv 1)) pa_nil))))), ?_⟩
    refine ⟨_, rfl, a, rfl, by rw [sizeLine_eq]; omega, _, rfl, b, rfl, by rw [sizeLine_eq]; omega, a.reverse, b.reverse, rfl, by simpa using ha, by simpa using hb, q⟩
end
end K39

set_option Elab.async false
set_option linter.all false
set_option maxRecDepth 100000
set_option maxHeartbeats 4000000
namespace K39
open PySem PySem.Spec PyProof.Rows L2 CK SX NM
/-- the borders' sizes, up to the place i -/
def szL (z : List Nat) (i : Nat) : List Nat := (List.range z.length).map fun j => if j ≤ i then WM.lb (z.take (j + 1)) else 0
theorem szL_len (z : List Nat) (i : Nat) : (szL z i).length = z.length := by simp [szL]
theorem szL_get {z : List Nat} {i j : Nat} (h : j ≤ i) (hj : j < z.length) : (szL z i)[j]? = some (WM.lb (z.take (j + 1))) := by
  unfold szL
  rw [List.getElem?_map, List.getElem?_range hj]
  simp [h]
theorem szL_zero {z : List Nat} (h : z ≠ []) : szL z 0 = List.replicate z.length 0 := by
  refine List.ext_getElem? fun j => ?_
  unfold szL
  by_cases hj : j < z.length
  · rw [List.getElem?_map, List.getElem?_range hj, List.getElem?_replicate, if_pos hj]
    simp only [Option.map_some]
    split
    · rename_i e
      have : j = 0 := by omega
      subst this
      rw [WM.lb_one]
    · rfl
  · rw [List.getElem?_eq_none (by simp; omega), List.getElem?_eq_none (by simp; omega)]
theorem szL_set {z : List Nat} {i : Nat} (h : i + 1 < z.length) : (szL z i).set (i + 1) (WM.lb (z.take (i + 2))) = szL z (i + 1) := by
  refine List.ext_getElem? fun j => ?_
  by_cases hj : j < z.length
  · rw [List.getElem?_set]
    unfold szL
    by_cases e : i + 1 = j
    · subst e
      rw [if_pos rfl, if_pos (by simp; omega), List.getElem?_map, List.getElem?_range hj]
      simp
    · rw [if_neg e, List.getElem?_map, List.getElem?_map, List.getElem?_range hj]
      simp only [Option.map_some]
      congr 1
      by_cases a : j ≤ i
      · rw [if_pos a, if_pos (by omega)]
      · rw [if_neg a, if_neg (by omega)]
  · rw [List.getElem?_eq_none (by simp [szL]; omega), List.getElem?_eq_none (by simp [szL]; omega)]
def natsV (ns : List Nat) : List V := ns.map fun n : Nat => V.int (n : Nat)
theorem natsV_get {ns : List Nat} {i n : Nat} (h : ns[i]? = some n) : (natsV ns)[i]? = some (.int (n : Nat)) := by
  unfold natsV
  rw [List.getElem?_map, h]
  rfl
theorem natsV_set (ns : List Nat) (i n : Nat) : (natsV ns).set i (.int (n : Nat)) = natsV (ns.set i n) := by
  unfold natsV
  rw [List.map_set]
theorem natsV_len (ns : List Nat) : (natsV ns).length = ns.length := by simp [natsV]
section
variable {P : Program} {w : World} {K : PySem.W.Frag} {mg : Str → Option Value} {base : Heap} {CK C : Addr}
def sp_border : Sp := fun vs H Q _ => ∃ (z : List Nat), vs = [.str (S z)] ∧ z ≠ [] ∧ z.length ≤ 1000000 ∧ ∀ p H', Same H H' → H p = none → H' p = some (.lst (natsV (szL z (z.length - 1)))) → Q (.ref p) H'
theorem c_border_sizes (T : Txt K mg CK C) : C8.Cal P w K mg base 1 "border_sizes" sp_border [] := by
  refine calF T.d_border_sizes sc_border_sizes (fun vs H Q E h => ?_) (fun f cdv A outer s H vs Q E hr h => ?_)
  · obtain ⟨_, rfl, _⟩ := h; rfl
  · obtain ⟨z, rfl, ne, hz, q⟩ := h
    have n0 := List.length_pos_iff.mpr ne
    refine ⟨_, (pss_cons (ps_set (i := 1) sc_border_sizes.nd rfl (Or.inl rfl) (pe_op op_rep (pe_lst (pa_cons pe_int pa_nil)) (pe_callB call_len_str (by rfl) T.m_len (by decide +kernel) (pa_cons (pv 0) pa_nil))))
    (pss_cons (ps_set (i := 2) sc_border_sizes.nd rfl (Or.inl rfl) pe_int)
    (pss_cons (ps_for PassesOwn.never rfl (pi_range2 (by rfl) T.m_range (pa_cons pe_int (pa_cons (pe_callB call_len_str (by rfl) T.m_len (by decide +kernel) (pa_cons (pv 0) pa_nil)) pa_nil))) (pg_name (i := 3) sc_border_sizes.nd rfl (Or.inl rfl))
    (pss_cons (ps_while PassesOwn.never (PW.pt (pw_and (pt_truth (pv 2) (by intro _; rfl)) (pw_and1 (pt_cmpR op_ne (pe_ix ix_str (pv 0) (pv 3) (fun _ _ => rfl)) (pe_ix ix_str (pv 0) (pv 2) (fun _ _ => rfl)) (nomark _)))))
    (pss_one (ps_set (i := 2) sc_border_sizes.nd rfl (Or.inl rfl) (pe_ix ix_list (pv 1) (pe_op op_sub (pv 2) pe_int) (fun _ _ => rfl)))))
    (pss_cons (ps_if (pt_cmpR op_eq (pe_ix ix_str (pv 0) (pv 3) (fun _ _ => rfl)) (pe_ix ix_str (pv 0) (pv 2) (fun _ _ => rfl)) (nomark _))
    (pss_one (ps_aug (i := 2) sc_border_sizes.nd rfl (.inl rfl) pe_int ip_add))
    pss_nil)
    (pss_one (ps_asg (pv 2) (pg_sub (pv 1) (pv 3) set_list))))))
    (pss_one (ps_ret (pv 1)))))), ?_⟩
    refine ⟨by show 1 ≤ sizeLine; decide, fun L0 h0 => ⟨_, rfl, S z, rfl, len_line hz, L0, _, _, rfl, rfl, upd_same, by omega, by rw [S_len]; omega, by rw [S_len, sizeLine_eq]; simp; omega, fun p hp => ?_⟩⟩
    have s0 := (sameNew (o := .lst [V.int 0]) h0).trans (sameNew (o := .lst (List.replicate (((S z).length : Nat) : Int).toNat [V.int 0]).flatten) hp)
    have hp0 : H p = none := (sameNew (o := .lst [V.int 0]) h0).free hp
    have e0 : (List.replicate (((S z).length : Nat) : Int).toNat [V.int 0]).flatten = natsV (szL z 0) := by
      rw [S_len, Int.toNat_natCast, szL_zero ne]
      unfold natsV
      rw [List.map_replicate]
      generalize z.length = k
      induction k with
      | zero => rfl
      | succ k ih => rw [List.replicate_succ, List.flatten_cons, ih, List.replicate_succ]; rfl
    rw [e0] at s0 ⊢
    have hpl : (upd (upd H L0 (.lst [V.int 0])) p (.lst (natsV (szL z 0)))) p = some (.lst (natsV (szL z 0))) := upd_same
    generalize upd (upd H L0 (.lst [V.int 0])) p (.lst (natsV (szL z 0))) = H1 at s0 hpl
    refine ⟨_, rfl, S z, rfl, len_line hz, 1, _, rfl, ⟨by omega, by omega, by omega, by rw [S_len]; omega⟩, ?_⟩
    refine for_it walk_range (fun i σ H' => i ≤ z.length - 1 ∧ SameX p H1 H' ∧ H' p = some (.lst (natsV (szL z i))) ∧ ∃ (zs : Int) (y3 : Option V), σ = [some (.str (S z)), some (.ref p), some (.int zs), y3] ∧ zs = ((WM.lb (z.take (i + 1)) : Nat) : Int))
      ⟨by omega, .refl _ _, hpl, 0, none, rfl, by rw [WM.lb_one]; rfl⟩ (fun _ _ _ _ _ => True.intro) (fun i x σ H' H'' hi pI yy => ?_) fun σ H' pI => ?_
    · obtain ⟨_, s1, hl1, zs, y3, rfl, rfl⟩ := pI
      obtain ⟨rfl, rfl⟩ := yy
      have hi' : i + 1 < z.length := by
        have : i < ((((S z).length : Nat) : Int) - 1).toNat := hi
        rw [S_len] at this
        omega
      have zn : z[i + 1]? = some z[i + 1] := List.getElem?_eq_getElem hi'
      generalize z[i + 1] = cn at zn
      have cand0 : WM.Cand z (i + 1) (WM.lb (z.take (i + 1))) := WM.cand_start (by omega) (by omega)
      refine while_by (fun σ H2 => H2 = H'' ∧ ∃ (s' : Nat) (zs : Int), σ = [some (.str (S z)), some (.ref p), some (.int zs), some (.int (1 + (i : Int)))] ∧ zs = s' ∧ WM.Cand z (i + 1) s')
        (fun σ _ => match σ with | [_, _, some (.int zs), _] => zs.toNat | _ => 0) ⟨rfl, _, _, rfl, rfl, cand0⟩ (fun σ H2 pJ => ?_) ?_
      · obtain ⟨rfl, s', zs, rfl, rfl, cand⟩ := pJ
        have slt := cand.1
        have zk : z[s']? = some z[s'] := List.getElem?_eq_getElem (by omega)
        generalize z[s'] = ck at zk
        refine ⟨_, rfl, _, rfl, ?_⟩
        by_cases z0 : s' = 0
        · subst z0
          refine iteF ?_
          refine ⟨_, rfl, _, rfl, S z, 1 + (i : Int), cn, rfl, rfl, len_line hz, ?_, _, rfl, _, rfl, S z, ((0 : Nat) : Int), ck, rfl, rfl, len_line hz, atI_nat (xs := z) zk, rfl, _, rfl, ?_⟩
          · rw [show 1 + (i : Int) = ((i + 1 : Nat) : Int) by omega]
            exact atI_nat (xs := z) zn
          refine ite2 (fun e => ?_) (fun e => ?_)
          · have ec : cn = ck := by
              have := S_inj (a := [cn]) (b := [ck]) (V.str.inj (of_decide_eq_true e))
              simpa using this
            have hit := WM.cand_hit hi' cand (by rw [zk, zn, ec])
            refine ⟨_, rfl, _, _, rfl, rfl, _, rfl, _, rfl, _, rfl, p, _, 1 + (i : Int), i + 1, rfl, rfl, hl1, ?_, ?_⟩
            · unfold ixN
              rw [natsV_len, szL_len, if_pos (by omega), if_pos (by omega)]
              congr 1
              omega
            · refine ⟨by omega, fun b o hb e => by rw [upd_ne hb]; exact s1 b o hb e, ?_, _, _, rfl, by rw [show i + 1 + 1 = i + 2 by omega] at hit ⊢; rw [hit]; rfl⟩
              rw [upd_same]
              have := natsV_set (szL z i) (i + 1) (WM.lb (z.take (i + 2)))
              rw [szL_set hi', show i + 2 = i + 1 + 1 by omega, hit] at this
              rw [← this]
              rfl
          · have nc : z[0]? ≠ z[i + 1]? := by
              rw [zk, zn]
              intro y
              exact e (decide_eq_true (by rw [Option.some.inj y]))
            have miss := WM.cand_miss hi' cand nc
            refine ⟨_, rfl, _, rfl, _, rfl, p, _, 1 + (i : Int), i + 1, rfl, rfl, hl1, ?_, ?_⟩
            · unfold ixN
              rw [natsV_len, szL_len, if_pos (by omega), if_pos (by omega)]
              congr 1
              omega
            · refine ⟨by omega, fun b o hb e => by rw [upd_ne hb]; exact s1 b o hb e, ?_, _, _, rfl, by rw [miss]⟩
              rw [upd_same]
              have := natsV_set (szL z i) (i + 1) (WM.lb (z.take (i + 2)))
              rw [szL_set hi', show i + 2 = i + 1 + 1 by omega, miss] at this
              rw [← this]
        · have tz : ((((s' : Nat) : Int)) != 0) = true := by rw [bne_iff_ne]; omega
          rw [tz]
          refine iteT ?_
          refine ⟨_, rfl, _, rfl, S z, 1 + (i : Int), cn, rfl, rfl, len_line hz, ?_, _, rfl, _, rfl, S z, ((s' : Nat) : Int), ck, rfl, rfl, len_line hz, atI_nat (xs := z) zk, rfl, _, rfl, ?_⟩
          · rw [show 1 + (i : Int) = ((i + 1 : Nat) : Int) by omega]
            exact atI_nat (xs := z) zn
          by_cases ec : cn = ck
          · refine iteNS (by rw [ec]) ?_
            refine ⟨_, rfl, _, rfl, S z, 1 + (i : Int), cn, rfl, rfl, len_line hz, ?_, _, rfl, _, rfl, S z, ((s' : Nat) : Int), ck, rfl, rfl, len_line hz, atI_nat (xs := z) zk, rfl, _, rfl, ?_⟩
            · rw [show 1 + (i : Int) = ((i + 1 : Nat) : Int) by omega]
              exact atI_nat (xs := z) zn
            rw [ec, decide_eq_true rfl]
            have hit := WM.cand_hit hi' cand (by rw [zk, zn, ec])
            refine iteT ⟨_, rfl, _, _, rfl, rfl, _, rfl, _, rfl, _, rfl, p, _, 1 + (i : Int), i + 1, rfl, rfl, hl1, ?_, ?_⟩
            · unfold ixN
              rw [natsV_len, szL_len, if_pos (by omega), if_pos (by omega)]
              congr 1
              omega
            · refine ⟨by omega, fun b o hb e => by rw [upd_ne hb]; exact s1 b o hb e, ?_, _, _, rfl, by rw [show i + 1 + 1 = i + 2 by omega] at hit ⊢; rw [hit]; rfl⟩
              rw [upd_same]
              have := natsV_set (szL z i) (i + 1) (WM.lb (z.take (i + 2)))
              rw [szL_set hi', show i + 2 = i + 1 + 1 by omega, hit] at this
              rw [← this]
              rfl
          · have hd : z[s']? ≠ z[i + 1]? := by
              rw [zk, zn]
              intro y
              exact ec (Option.some.inj y).symm
            have down := WM.cand_down (by omega) cand (by omega) hd
            have : (!decide (V.str (S [cn]) = V.str (S [ck]))) = true := by
              rw [decide_eq_false (fun y => ec (by simpa using S_inj (a := [cn]) (b := [ck]) (V.str.inj y)))]
              rfl
            rw [show (⟨#[cn]⟩ : Str) = S [cn] from rfl, show (⟨#[ck]⟩ : Str) = S [ck] from rfl, this]
            have get := szL_get (z := z) (i := i) (j := s' - 1) (by omega) (by omega)
            rw [show s' - 1 + 1 = s' by omega] at get
            refine iteT ⟨_, rfl, _, rfl, _, _, rfl, rfl, p, _, _, .int ((WM.lb (z.take s') : Nat) : Int), rfl, rfl, .inl (.inl hl1), ?_, ⟨rfl, WM.lb (z.take s'), _, rfl, rfl, down⟩, ?_⟩
            · rw [show ((s' : Nat) : Int) - 1 = ((s' - 1 : Nat) : Int) by omega]
              exact atI_nat (natsV_get get)
            · show (((WM.lb (z.take s') : Nat) : Int)).toNat < (((s' : Nat) : Int)).toNat
              have := WM.lb_lt (w := z.take s') (fun y => by have := congrArg List.length y; rw [List.length_take, List.length_nil] at this; omega)
              rw [List.length_take] at this
              omega
      · intro σ H' Q1 Q2 hq h
        obtain ⟨a1, h1, k, h2, h⟩ := h
        refine ⟨a1, h1, k, h2, ?_⟩
        cases k with
        | false => exact hq _ _ h
        | true =>
          obtain ⟨a1, h1, a2, h2, a3, a4, a5, h3, h4, h5, h6, a6, h7, a7, h8, a8, a9, a10, h9, h10, h11, h12, h13, k, h14, h⟩ := h
          exact ⟨a1, h1, a2, h2, a3, a4, a5, h3, h4, h5, h6, a6, h7, a7, h8, a8, a9, a10, h9, h10, h11, h12, h13, k, h14, hq _ _ h⟩
    · obtain ⟨_, s1, hl1, zs, y3, rfl, rfl⟩ := pI
      have en : ((((S z).length : Nat) : Int) - 1).toNat = z.length - 1 := by rw [S_len]; omega
      rw [en] at hl1
      refine ⟨_, rfl, q p H' (fun b o e => ?_) hp0 hl1⟩
      have hb : b ≠ p := fun y => by rw [y, hp0] at e; cases e
      exact s1 _ _ hb (s0 _ _ e)
def sp_root : Sp := fun vs H Q _ => ∃ (z : List Nat), vs = [.str (S z)] ∧ z ≠ [] ∧ z.length ≤ 1000000 ∧ ∀ H', Same H H' → Q (.int (WM.rootN z : Nat)) H'
theorem c_root_size (T : Txt K mg CK C) : C8.Cal P w K mg base 2 "root_size" sp_root [] := by
  refine calF T.d_root_size sc_root_size (fun vs H Q E h => ?_) (fun f cdv A outer s H vs Q E hr h => ?_)
  · obtain ⟨_, rfl, _⟩ := h; rfl
  · obtain ⟨z, rfl, ne, hz, q⟩ := h
    have n0 := List.length_pos_iff.mpr ne
    have lt := WM.lb_lt ne
    refine ⟨_, (pss_cons (ps_set (i := 1) sc_root_size.nd rfl (Or.inl rfl) (pe_op op_sub (pe_callB call_len_str (by rfl) T.m_len (by decide +kernel) (pa_cons (pv 0) pa_nil)) (pe_ix ix_list (C8.pe_c (c_border_sizes T) hr (by decide) (by rfl) (pa_cons (pv 0) pa_nil)) (pe_un un_neg pe_int) (fun _ _ => rfl))))
    (pss_one (ps_ret (pe_ifExp (pt_truth (pe_op op_modZ (pe_callB call_len_str (by rfl) T.m_len (by decide +kernel) (pa_cons (pv 0) pa_nil)) (pv 1)) (by intro _; rfl)) (pe_callB call_len_str (by rfl) T.m_len (by decide +kernel) (pa_cons (pv 0) pa_nil)) (pv 1))))), ?_⟩
    refine ⟨_, rfl, S z, rfl, len_line hz, _, rfl, z, rfl, ne, hz, fun p H1 s1 n1 hp => ?_⟩
    have get := szL_get (z := z) (i := z.length - 1) (j := z.length - 1) (Nat.le_refl _) (by omega)
    rw [show z.length - 1 + 1 = z.length by omega, List.take_length] at get
    have e1 : (((S z).length : Nat) : Int) - ((WM.lb z : Nat) : Int) = ((z.length - WM.lb z : Nat) : Int) := by rw [S_len]; omega
    refine ⟨1, rfl, p, _, -1, .int (WM.lb z : Nat), rfl, rfl, .inl (.inl hp), ?_, _, _, rfl, rfl, ?_⟩
    · unfold atI ixN
      rw [natsV_len, szL_len, if_neg (by omega), if_pos (by omega)]
      show (natsV (szL z (z.length - 1)))[((-1 : Int) + z.length).toNat]? = _
      rw [show ((-1 : Int) + z.length).toNat = z.length - 1 by omega]
      exact natsV_get get
    · refine ⟨_, rfl, S z, rfl, len_line hz, _, rfl, z.length, z.length - WM.lb z, congrArg (fun n : Nat => V.int n) (S_len z), congrArg V.int e1, by omega, _, rfl, ?_⟩
      unfold WM.rootN at q
      by_cases m0 : z.length % (z.length - WM.lb z) = 0
      · rw [if_pos m0] at q
        rw [show ((((z.length % (z.length - WM.lb z) : Nat) : Int)) != 0) = false by rw [m0]; rfl]
        refine iteF ⟨_, rfl, ?_⟩
        show Q (V.int ((((S z).length : Nat) : Int) - ((WM.lb z : Nat) : Int))) H1
        rw [e1]
        exact q H1 s1
      · rw [if_neg m0] at q
        rw [show ((((z.length % (z.length - WM.lb z) : Nat) : Int)) != 0) = true by rw [bne_iff_ne]; omega]
        refine iteT ⟨_, rfl, S z, rfl, len_line hz, ?_⟩
        show Q (V.int (((S z).length : Nat) : Int)) H1
        rw [S_len]
        exact q H1 s1
/-! ### forms -/
theorem get_nat {xs : List Nat} {i : Nat} {v : V} (h : (xs.map fun n : Nat => V.int (n : Nat))[i]? = some v) : ∃ z, z ∈ xs ∧ xs[i]? = some z ∧ v = .int (z : Nat) := by
  rw [List.getElem?_map] at h
  cases e : xs[i]? with
  | none => rw [e] at h; cases h
  | some z =>
    rw [e] at h
    exact ⟨z, List.mem_of_getElem? e, rfl, (Option.some.inj h).symm⟩
def vAdd : V → V → V
  | .int i, .int j => .int (i + j)
  | _, _ => .non
theorem zip_addN : ∀ (xs ys : List Nat), List.zipWith vAdd (xs.map fun n : Nat => V.int (n : Nat)) (ys.map fun n : Nat => V.int (n : Nat)) = (addF xs ys).map fun n : Nat => V.int (n : Nat)
  | [], _ => by simp [addF]
  | _ :: _, [] => by simp [addF]
  | x :: xs, y :: ys => by
    show V.int ((x : Int) + (y : Int)) :: _ = V.int ((x + y : Nat) : Int) :: _
    rw [zip_addN xs ys]
    rfl
theorem small5 {n : Nat} (h : n ≤ 5) : n < sizeLine := small1000 (by omega)
def sp_form_sum : Sp := fun vs H Q _ => ∃ (a b : Addr) (f g : F), vs = [.ref a, .ref b] ∧ FT H a f ∧ FT H b g ∧ f.length ≤ 4 ∧ f.length = g.length ∧ ∀ p H', Same H H' → FT H' p (addF f g) → Q (.ref p) H'
theorem c_form_sum (T : Txt K mg CK C) : C8.Cal P w K mg base 1 "form_sum" sp_form_sum [] := by
  refine calF T.d_form_sum sc_form_sum (fun vs H Q E h => ?_) (fun f cdv A outer s H vs Q E hr h => ?_)
  · obtain ⟨_, _, _, _, rfl, _⟩ := h; rfl
  · obtain ⟨a, b, f, g, rfl, ha, hb, h4, hl, q⟩ := h
    refine ⟨_, (pss_one (ps_ret (pe_callTy call_tupL (by rfl) T.m_tuple (by decide +kernel) (pa_cons (pe_lc (own := [("left", 2), ("right", 3)]) (by rfl) sc_form_sum.nd (pi_zipB (K := K) rfl (by rfl) T.m_zip (pa_cons (pv 0) (pa_cons (pv 1) pa_nil))) (blkOk_by (N := ["one", "other", "left", "right"]) (sc := C8.fnScope (topS 27)) (own := [("left", 2), ("right", 3)]) (by decide +kernel)) (fun _ _ _ _ _ => (pg_two (K := K) (i := 2) (j := 3) rfl rfl sc_form_sum.nd rfl rfl (Or.inl rfl) (Or.inl rfl))) (fun _ _ _ _ _ => pts_nil) (fun _ _ _ _ _ => (pe_op op_add (pv 2) (pv 3)))) pa_nil)))), ?_⟩
    refine ⟨_, rfl, _, rfl, .T, .T, a, b, _, _, rfl, .inl (.inl ha), .inl (.inl hb), ?_⟩
    refine fun D hD => lcZ_map vAdd (by simp; omega) (by rw [List.length_map]; exact small5 (by omega)) (fun H' s => ⟨.inl (.inl (s _ _ ha)), .inl (.inl (s _ _ hb))⟩) (fun i x y H' R hx hy s q' => ?_) hD fun H' s hL => ?_
    · obtain ⟨x', mx, _, rfl⟩ := get_nat hx
      obtain ⟨y', my, _, rfl⟩ := get_nat hy
      exact ⟨rfl, _, rfl, _, rfl, _, _, rfl, rfl, q' _ (Same.refl _)⟩
    · rw [zip_addN] at hL
      exact ⟨D, _, rfl, hL, fun l H2 s2 h2 => q l H2 (s.trans s2) h2⟩
def Bf (f : F) : Prop := ∀ n ∈ f, n < 2 ^ 900
def sp_form_times : Sp := fun vs H Q _ => ∃ (k : Nat) (a : Addr) (f : F), vs = [.int k, .ref a] ∧ FT H a f ∧ f.length ≤ 4 ∧ k < 2 ^ 900 ∧ Bf f ∧ ∀ p H', Same H H' → FT H' p (timesF k f) → Q (.ref p) H'
theorem c_form_times (T : Txt K mg CK C) : C8.Cal P w K mg base 1 "form_times" sp_form_times [] := by
  refine calF T.d_form_times sc_form_times (fun vs H Q E h => ?_) (fun f cdv A outer s H vs Q E hr h => ?_)
  · obtain ⟨_, _, _, rfl, _⟩ := h; rfl
  · obtain ⟨k, a, f, rfl, ha, h4, hk, bf, q⟩ := h
    refine ⟨_, (pss_one (ps_ret (pe_callTy call_tupL (by rfl) T.m_tuple (by decide +kernel) (pa_cons (pe_lc (own := [("own", 2)]) (by rfl) sc_form_times.nd (pi_tup (pv 1)) (blkOk_by (N := ["number", "form", "own"]) (sc := C8.fnScope (topS 28)) (own := [("own", 2)]) (by decide +kernel)) (fun _ _ _ _ _ => (pg_name (i := 2) sc_form_times.nd rfl (Or.inl rfl))) (fun _ _ _ _ _ => pts_nil) (fun _ _ _ _ _ => (pe_op op_mulW (pv 0) (pv 2)))) pa_nil)))), ?_⟩
    refine ⟨_, rfl, a, rfl, ⟨_, .inl (.inl ha)⟩, ?_⟩
    refine fun D hD => lcT_map (fun x => match x with | .int j => .int ((k : Int) * j) | _ => .non) ha (by rw [List.length_map]; exact small5 (by omega)) (fun i x H' R hx s q' => ?_) hD fun H' s hL => ?_
    · obtain ⟨x', mx, _, rfl⟩ := get_nat hx
      have := bf x' mx
      exact ⟨rfl, _, rfl, _, rfl, _, _, rfl, rfl, wide_mul (a := 900) (b := 900) (by omega) (by omega) (by decide) (by decide) (by decide), q' _ (Same.refl _)⟩
    · refine ⟨D, _, rfl, hL, fun l H2 s2 h2 => q l H2 (s.trans s2) ?_⟩
      unfold FT
      rw [h2, timesF, List.map_map, List.map_map]
      congr 2
end
end K39

set_option Elab.async false
set_option linter.all false
set_option maxRecDepth 100000
set_option maxHeartbeats 4000000
namespace K39
open PySem PySem.Spec PyProof.Rows L2 CK SX NM
/-! ### pieces in the heap -/
def PC (H : Hp) (a : Addr) (p : Pn) : Prop := ∃ fa, H a = some (.tup [.str (S p.1), .ref fa]) ∧ FT H fa p.2
theorem PC.mono {H H' : Hp} {a : Addr} {p : Pn} (h : PC H a p) (s : ∀ a xs, H a = some (.tup xs) → H' a = some (.tup xs)) : PC H' a p := by
  obtain ⟨fa, h1, h2⟩ := h
  exact ⟨fa, s _ _ h1, s _ _ h2⟩
inductive Pcs (H : Hp) : List V → List Pn → Prop
  | nil : Pcs H [] []
  | cons {a : Addr} {vs : List V} {p : Pn} {ps : List Pn} : PC H a p → Pcs H vs ps → Pcs H (.ref a :: vs) (p :: ps)
theorem Pcs.mono {H H' : Hp} {vs : List V} {ps : List Pn} (h : Pcs H vs ps) (s : ∀ a xs, H a = some (.tup xs) → H' a = some (.tup xs)) : Pcs H' vs ps := by
  induction h with
  | nil => exact .nil
  | cons e _ ih => exact .cons (e.mono s) ih
theorem tup_same {H H' : Hp} (s : Same H H') : ∀ a xs, H a = some (.tup xs) → H' a = some (.tup xs) := fun a xs e => s _ _ e
theorem tup_upd {H : Hp} {l : Addr} {xs ys : List V} (hl : H l = some (.lst xs)) : ∀ a zs, H a = some (.tup zs) → (upd H l (.lst ys)) a = some (.tup zs) := fun a zs e => by
  rw [upd_ne (fun z => by rw [z, hl] at e; cases e)]
  exact e
theorem tup_sameX {l : Addr} {H H' : Hp} {xs : List V} (hl : H l = some (.lst xs)) (s : SameX l H H') : ∀ a zs, H a = some (.tup zs) → H' a = some (.tup zs) := fun a zs e =>
  s _ _ (fun z => by rw [z, hl] at e; cases e) e
theorem Pcs.same {H H' : Hp} {vs : List V} {ps : List Pn} (h : Pcs H vs ps) (s : Same H H') : Pcs H' vs ps := h.mono (tup_same s)
theorem Pcs.upd {H : Hp} {vs : List V} {ps : List Pn} {l : Addr} {xs ys : List V} (h : Pcs H vs ps) (hl : H l = some (.lst xs)) : Pcs (upd H l (.lst ys)) vs ps := h.mono (tup_upd hl)
theorem Pcs.len {H : Hp} {vs : List V} {ps : List Pn} (h : Pcs H vs ps) : vs.length = ps.length := by
  induction h with
  | nil => rfl
  | cons _ _ ih => simp [ih]
theorem Pcs.app {H : Hp} {vs us : List V} {ps qs : List Pn} (h : Pcs H vs ps) (g : Pcs H us qs) : Pcs H (vs ++ us) (ps ++ qs) := by
  induction h with
  | nil => exact g
  | cons e _ ih => exact .cons e ih
theorem Pcs.get {H : Hp} {vs : List V} {ps : List Pn} (h : Pcs H vs ps) {i : Nat} {v : V} (hi : vs[i]? = some v) : ∃ a p, v = .ref a ∧ ps[i]? = some p ∧ PC H a p := by
  induction h generalizing i with
  | nil => simp at hi
  | cons e _ ih =>
    cases i with
    | zero =>
      cases hi
      exact ⟨_, _, rfl, rfl, e⟩
    | succ i => exact ih hi
theorem Pcs.init {H : Hp} {vs : List V} {ps : List Pn} (h : Pcs H vs ps) : Pcs H vs.dropLast ps.dropLast := by
  induction h with
  | nil => exact .nil
  | cons e h ih =>
    cases h with
    | nil => exact .nil
    | cons e2 h2 => exact .cons e ih
theorem Pcs.one {H : Hp} {a : Addr} {p : Pn} (e : PC H a p) : Pcs H [.ref a] [p] := .cons e .nil
def PL (H : Hp) (l : Addr) (ps : List Pn) : Prop := ∃ vs, H l = some (.lst vs) ∧ Pcs H vs ps
theorem PL.same {H H' : Hp} {l : Addr} {ps : List Pn} (h : PL H l ps) (s : Same H H') : PL H' l ps := by
  obtain ⟨vs, e, p⟩ := h
  exact ⟨vs, s _ _ e, p.same s⟩
theorem last_at {vs : List V} {v : V} (h : vs[vs.length - 1]? = some v) : atI vs (-1) = some v := by
  have := (List.getElem?_eq_some_iff.mp h).1
  unfold atI ixN
  rw [if_neg (by omega), if_pos (by omega)]
  show vs[((-1 : Int) + vs.length).toNat]? = _
  rw [show ((-1 : Int) + vs.length).toNat = vs.length - 1 by omega]
  exact h
theorem head_get {f : F} {m : Nat} (h : f.length = m + 1) : (f.map fun n : Nat => V.int (n : Nat))[0]? = some (.int ((f.headD 0 : Nat) : Int)) := by
  cases f with
  | nil => simp at h
  | cons a f => rfl
theorem nat_dec (a b : Nat) : decide (V.int (a : Nat) = V.int (b : Nat)) = decide (a = b) := by
  by_cases h : a = b
  · rw [h, decide_eq_true rfl, decide_eq_true rfl]
  · rw [decide_eq_false h, decide_eq_false (fun z => h (by have := V.int.inj z; omega))]
theorem not_empty {α : Type} {l : List α} {q : α} (h : l.getLast? = some q) : (!l.isEmpty) = true := by
  cases l with
  | nil => cases h
  | cons _ _ => rfl
section
variable {P : Program} {w : World} {K : PySem.W.Frag} {mg : Str → Option Value} {base : Heap} {CK C : Addr}
def sp_open : Sp := fun vs H Q _ => ∃ (a : Addr) (f : F), vs = [.ref a] ∧ FT H a f ∧ ∀ H', Same H H' → Q (.bl (isOpen f)) H'
theorem c_is_open_form (T : Txt K mg CK C) : C8.Cal P w K mg base 1 "is_open_form" sp_open [] := by
  refine calF T.d_is_open_form sc_is_open_form (fun vs H Q E h => ?_) (fun f cdv A outer s H vs Q E hr h => ?_)
  · obtain ⟨_, _, rfl, _⟩ := h; rfl
  · obtain ⟨a, f, rfl, ha, q⟩ := h
    refine ⟨_, (pss_one (ps_ret (pe_callB (cr_anyN rfl) (by rfl) T.m_any (by decide +kernel) (pa_cons (pe_slice sl_drop (pv 0) (po_some pe_int) po_none) pa_nil)))), ?_⟩
    refine ⟨_, rfl, 1, rfl, a, _, 1, rfl, rfl, rfl, ha, fun p1 H1 s1 h1 => ⟨p1, f.tail, rfl, ?_, q H1 s1⟩⟩
    rw [h1, ← List.map_drop]
    cases f <;> rfl
def sp_is_power : Sp := fun vs H Q _ => ∃ (a : Addr) (p : Pn) (m : Nat), vs = [.ref a] ∧ PC H a p ∧ p.2.length = m + 1 ∧ Q (.bl (isPow p)) H
theorem c_is_power (T : Txt K mg CK C) : C8.Cal P w K mg base 1 "is_power" sp_is_power [] := by
  refine calF T.d_is_power sc_is_power (fun vs H Q E h => ?_) (fun f cdv A outer s H vs Q E hr h => ?_)
  · obtain ⟨_, _, _, rfl, _⟩ := h; rfl
  · obtain ⟨a, p, m, rfl, ⟨fa, h1, h2⟩, hl, q⟩ := h
    refine ⟨_, (pss_one (ps_ret (pe_cmpR op_eq (pe_ix ix_tup (pe_ix ix_tup (pv 0) pe_int (fun _ _ => rfl)) pe_int (fun _ _ => rfl)) pe_int (nomark _)))), ?_⟩
    refine ⟨_, rfl, a, _, 1, _, rfl, rfl, .inl (.inl h1), atI_nat (j := 1) rfl, fa, _, 0, _, rfl, rfl, .inl (.inl h2), atI_nat (j := 0) (head_get hl), rfl, ?_⟩
    have := nat_dec (p.2.headD 0) 0
    rw [show V.int ((0 : Nat) : Int) = V.int 0 from rfl] at this
    rw [this]
    exact q
def sp_fixed : Sp := fun vs H Q _ => ∃ (z : List Nat) (m : Nat), vs = [.str (S z), .int m] ∧ m ≤ 3 ∧ ∀ p H', Same H H' → PC H' p (fixP z m) → Q (.ref p) H'
theorem c_fixed_piece (T : Txt K mg CK C) : C8.Cal P w K mg base 1 "fixed_piece" sp_fixed [] := by
  refine calF T.d_fixed_piece sc_fixed_piece (fun vs H Q E h => ?_) (fun f cdv A outer s H vs Q E hr h => ?_)
  · obtain ⟨_, _, rfl, _⟩ := h; rfl
  · obtain ⟨z, m, rfl, hm, q⟩ := h
    refine ⟨_, (pss_one (ps_ret (pe_tup (pa_cons (pv 0) (pa_cons (pe_op op_catS (pe_tup (pa_cons pe_int pa_nil)) (pe_op op_repOne (pe_tup (pa_cons pe_int pa_nil)) (pv 1))) pa_nil))))), ?_⟩
    refine ⟨_, rfl, by show 1 ≤ sizeLine; decide, fun t1 n1 => ⟨by decide, fun t2 n2 => ⟨_, rfl, t2, _, _, rfl, rfl, upd_same, by omega, by omega, fun p H' s hp => ?_⟩⟩⟩
    have e1 : H' t1 = some (.tup [.int 1]) := s _ _ (by rw [upd_ne (ne_of_none upd_same n2)]; exact upd_same)
    refine ⟨t1, p, _, _, rfl, rfl, e1, hp, by simp; omega, fun p2 H2 s2 h2 => ⟨by show 2 ≤ sizeLine; decide, fun t ht => ?_⟩⟩
    refine q t _ ((((sameNew n1).trans (sameNew n2)).trans (s.trans s2)).trans (sameNew ht)) ⟨p2, upd_same, ?_⟩
    refine sameNew ht _ _ ?_
    rw [h2]
    unfold fixP one1
    simp
theorem tru_word {K : PySem.W.Frag} {H : Hp} {z : List Nat} (h : z.length ≤ 1000000) : TruV K (.str (S z)) H (decide (z ≠ [])) := by
  refine ⟨len_line h, ?_⟩
  rw [S_len]
  by_cases e : z = []
  · subst e; rfl
  · have := List.length_pos_iff.mpr e
    rw [decide_eq_true e]
    symm
    rw [bne_iff_ne]
    omega
theorem SameX.updL {l : Addr} {H H1 : Hp} {o : HO} (s : SameX l H H1) : SameX l H (upd H1 l o) := fun b x hb e => by
  rw [upd_ne hb]
  exact s b x hb e
/-- behind the first test -/
theorem fixed_tail (T : Txt K mg CK C) (f : Addr) (cdv : Value) (A : Around) (outer : List Env) (s : Shared) (H0 : Hp) (E : XK) (hr : Room 1 (A.deeper (envOfC "put_fixed" (C8.fnScope (topS 68)) s.heap.objs.size f cdv))) :
    ∃ u, PSs (cxOf C8.CX0 P w K mg base ["ready", "word", "many"] "put_fixed" (C8.fnScope (topS 68)) f cdv A outer s H0 E).nox ((C8.fnBody (topS 68)).drop 1) u ∧
      ∀ (D : Ends) (H : Hp) (l : Addr) (us : List V) (X : List Pn) (z : List Nat) (m : Nat), H l = some (.lst us) → Pcs H us X → m ≤ 3 → X.length < 1000000 → z.length ≤ 200000 →
        (∀ σ H', SameX l H H' → PL H' l (if z = [] then X else X ++ [fixP z m]) → D.nx σ H') → u D [some (.ref l), some (.str (S z)), some (.int m)] H := by
  refine ⟨_, (pss_one (ps_if (pt_truth (pv 1) (by intro _; rfl))
    (pss_one (ps_expr (pe_bm PySem.F.plainAttrs_list PySem.F.slot_list_append PySem.F.type_list_append mt_append (pv 0) (pa_cons (C8.pe_c (c_fixed_piece T) hr (by decide) (by rfl) (pa_cons (pv 1) (pa_cons (pv 2) pa_nil))) pa_nil))))
    pss_nil)), ?_⟩
  intro D H l us X z m hl hX hm lX lz q
  refine ⟨_, rfl, _, tru_word (by omega), ite2 (fun e => ?_) (fun e => ?_)⟩
  · have e' := of_decide_eq_true e
    refine ⟨_, rfl, .inl ⟨rfl, _, .inl (.inl hl)⟩, _, rfl, _, rfl, z, m, rfl, hm, fun t H2 s2 pc => ?_⟩
    have h2 := s2 _ _ hl
    refine ⟨l, _, _, rfl, rfl, h2, by have := hX.len; rw [sizeLine_eq]; omega, q _ _ (SameX.updL (.of s2)) ?_⟩
    rw [if_neg e']
    exact ⟨_, upd_same, ((hX.same s2).upd h2).app (.one (pc.mono (tup_upd h2)))⟩
  · have e' : z = [] := Classical.byContradiction fun y => e (decide_eq_true y)
    exact q _ _ (.refl _ _) (by rw [if_pos e']; exact ⟨us, hl, hX⟩)
/-- the list at l grows, all else stays -/
def sp_put_fixed : Sp := fun vs H Q _ => ∃ (l : Addr) (acc : List Pn) (z : List Nat) (m : Nat), vs = [.ref l, .str (S z), .int m] ∧ PL H l acc ∧ LenF m acc ∧ m ≤ 3 ∧ acc.length < 1000000 ∧ z.length ≤ 100000 ∧ (∀ p ∈ acc, p.1.length ≤ 100000) ∧
  ∀ H', SameX l H H' → PL H' l (joinF acc z m) → Q .non H'
theorem c_put_fixed (T : Txt K mg CK C) : C8.Cal P w K mg base 2 "put_fixed" sp_put_fixed [] := by
  refine calF T.d_put_fixed sc_put_fixed (fun vs H Q E h => ?_) (fun f cdv A outer s H vs Q E hr h => ?_)
  · obtain ⟨_, _, _, _, rfl, _⟩ := h; rfl
  · obtain ⟨l, acc, z, m, rfl, ⟨vs, hl, hp⟩, lf, hm, hacc, hz, hw, q⟩ := h
    have lv := hp.len
    obtain ⟨u1, hu1, tail⟩ := fixed_tail (P := P) (w := w) (base := base) T f cdv A outer s H E hr
    refine ⟨_, (pss_cons (ps_if (PW.pt (pw_and (pt_truth (pv 0) (by intro _; rfl)) (pw_and1 (pt_not (pt_val (C8.pe_c (c_is_power T) hr (by decide) (by rfl) (pa_cons (pe_ix ix_list (pv 0) (pe_un un_neg pe_int) (fun _ _ => rfl)) pa_nil)))))))
    (pss_one (ps_set (i := 1) sc_put_fixed.nd rfl (Or.inl rfl) (pe_op op_add_str (pe_ix ix_tup (pe_bm0 PySem.F.plainAttrs_list PySem.F.slot_list_pop PySem.F.type_list_pop mt_pop (pv 0)) pe_int (fun _ _ => rfl)) (pv 1))))
    pss_nil)
    hu1), ?_⟩
    cases hlast : vs.getLast? with
    | none =>
      have ve : vs = [] := List.getLast?_eq_none_iff.mp hlast
      have ae : acc = [] := List.length_eq_zero_iff.mp (by rw [← lv, ve]; rfl)
      have ep : joinF acc z m = if z = [] then acc else acc ++ [fixP z m] := by rw [ae]; rfl
      rw [ep] at q
      refine ⟨_, rfl, false, .inl ⟨_, .inl (.inl hl), by rw [ve]; rfl⟩, iteF (iteF ?_)⟩
      exact tail _ H l vs acc z m hl hp hm hacc (by omega) fun _ H' s' p' => q H' s' p'
    | some v =>
      have hv : vs[vs.length - 1]? = some v := by rw [← List.getLast?_eq_getElem?]; exact hlast
      obtain ⟨b, p, rfl, hpi, pc⟩ := hp.get hv
      have ha : acc.getLast? = some p := by rw [List.getLast?_eq_getElem?, ← lv]; exact hpi
      have mem := List.mem_of_getLast? ha
      refine ⟨_, rfl, true, .inl ⟨_, .inl (.inl hl), (not_empty hlast).symm⟩, iteT ?_⟩
      refine ⟨_, rfl, 1, rfl, l, _, -1, _, rfl, rfl, .inl (.inl hl), last_at hv, b, p, m, rfl, pc, lf p mem, _, rfl, ?_⟩
      cases ep : isPow p with
      | true =>
        have e : joinF acc z m = if z = [] then acc else acc ++ [fixP z m] := by
          unfold joinF
          rw [ha]
          simp [ep]
        rw [e] at q
        refine iteF ?_
        exact tail _ H l vs acc z m hl hp hm hacc (by omega) fun _ H' s' p' => q H' s' p'
      | false =>
        have e : joinF acc z m = if p.1 ++ z = [] then acc.dropLast else acc.dropLast ++ [fixP (p.1 ++ z) m] := by
          unfold joinF
          rw [ha]
          simp [ep]
        rw [e] at q
        obtain ⟨fa, h1, h2⟩ := id pc
        have lp := hw p mem
        refine iteT ⟨_, rfl, .inl ⟨rfl, _, .inl (.inl hl)⟩, l, _, _, rfl, rfl, hl, hv, b, _, 0, _, rfl, rfl, .inl (.inl (tup_upd hl _ _ h1)), atI_nat (j := 0) rfl, _, rfl, _, _, rfl, rfl, ?_, ?_⟩
        · rw [S_len, S_len, sizeLine_eq]
          omega
        · rw [S_cat]
          exact tail _ _ l vs.dropLast acc.dropLast (p.1 ++ z) m upd_same (hp.init.upd hl) hm (by rw [List.length_dropLast]; omega) (by rw [List.length_append]; omega) fun _ H' s' p' => q H' ((SameX.updL (.refl _ _)).trans s') p'
end
end K39

set_option Elab.async false
set_option linter.all false
set_option maxRecDepth 100000
set_option maxHeartbeats 4000000
namespace K39
open PySem PySem.Spec PyProof.Rows L2 CK SX NM
def Ws (B : Nat) (ps : List Pn) : Prop := ∀ p ∈ ps, p.1.length ≤ B
theorem mem_joinF {acc : List Pn} {z : WM.W} {m : Nat} {p : Pn} (h : p ∈ joinF acc z m) : p ∈ acc ∨ p = fixP z m ∨ ∃ q ∈ acc, p = fixP (q.1 ++ z) m := by
  unfold joinF at h
  split at h
  · next q hq =>
    have mq := List.mem_of_getLast? hq
    split at h
    · split at h
      · exact .inl h
      · rcases List.mem_append.mp h with x | x
        · exact .inl x
        · exact .inr (.inl (List.mem_singleton.mp x))
    · split at h
      · exact .inl (mem_dropLast h)
      · rcases List.mem_append.mp h with x | x
        · exact .inl (mem_dropLast x)
        · exact .inr (.inr ⟨q, mq, List.mem_singleton.mp x⟩)
  · split at h
    · exact .inl h
    · rcases List.mem_append.mp h with x | x
      · exact .inl x
      · exact .inr (.inl (List.mem_singleton.mp x))
theorem len_one1 (m : Nat) : (one1 m).length = m + 1 := by simp [one1]
theorem lenF_joinF {acc : List Pn} {z : WM.W} {m : Nat} (h : LenF m acc) : LenF m (joinF acc z m) := fun p hp => by
  rcases mem_joinF hp with x | x | ⟨q, _, x⟩
  · exact h p x
  · rw [x]; exact len_one1 m
  · rw [x]; exact len_one1 m
theorem ws_joinF {acc : List Pn} {z : WM.W} {m B : Nat} (h : Ws B acc) (hz : z.length ≤ B) : Ws (2 * B) (joinF acc z m) := fun p hp => by
  rcases mem_joinF hp with x | x | ⟨q, hq, x⟩
  · have := h p x
    omega
  · rw [x]
    show z.length ≤ 2 * B
    omega
  · rw [x]
    show (q.1 ++ z).length ≤ 2 * B
    have := h q hq
    rw [List.length_append]
    omega
theorem len_joinF (acc : List Pn) (z : WM.W) (m : Nat) : (joinF acc z m).length ≤ acc.length + 1 := by
  unfold joinF
  split
  · split
    · split <;> simp
    · split <;> simp
      omega
  · split <;> simp
section
variable {P : Program} {w : World} {K : PySem.W.Frag} {mg : Str → Option Value} {base : Heap} {CK C : Addr}
theorem power_tail2 (T : Txt K mg CK C) (f0 : Addr) (cdv : Value) (A : Around) (outer : List Env) (s : Shared) (H0 : Hp) (E : XK) (hr : Room 2 (A.deeper (envOfC "put_power" (C8.fnScope (topS 69)) s.heap.objs.size f0 cdv))) :
    ∃ u, PSs (cxOf C8.CX0 P w K mg base ["ready", "word", "form", "many", "behind", "ahead", "moved"] "put_power" (C8.fnScope (topS 69)) f0 cdv A outer s H0 E).nox ((C8.fnBody (topS 69)).drop 4) u ∧
      ∀ (D : Ends) (H : Hp) (l fa : Addr) (us : List V) (X : List Pn) (z b : List Nat) (f : F) (m : Nat) (y5 y6 : Option V), H l = some (.lst us) → Pcs H us X → FT H fa f → f.length = m + 1 → LenF m X → m ≤ 3 → X.length < 900000 → b.length ≤ 100000 → z.length ≤ 100000 → Ws 100000 X →
        (∀ σ H', SameX l H H' → PL H' l (joinF (X ++ [(z, f)]) b m) → D.nx σ H') → u D [some (.ref l), some (.str (S z)), some (.ref fa), some (.int m), some (.str (S b)), y5, y6] H := by
  refine ⟨_, (pss_cons (ps_expr (pe_bm PySem.F.plainAttrs_list PySem.F.slot_list_append PySem.F.type_list_append mt_append (pv 0) (pa_cons (pe_tup (pa_cons (pv 1) (pa_cons (pv 2) pa_nil))) pa_nil)))
    (pss_one (ps_expr (C8.pe_c (c_put_fixed T) hr (by decide) (by rfl) (pa_cons (pv 0) (pa_cons (pv 4) (pa_cons (pv 3) pa_nil))))))), ?_⟩
  intro D H l fa us X z b f m y5 y6 hl hX hf lf lX hm hn lb lz ws q
  have lu := hX.len
  refine ⟨_, rfl, .inl ⟨rfl, _, .inl (.inl hl)⟩, _, rfl, _, rfl, by show 2 ≤ sizeLine; decide, fun t ht => ?_⟩
  have st := sameNew (o := .tup [.str (S z), .ref fa]) ht
  have h1 := st _ _ hl
  refine ⟨l, _, _, rfl, rfl, h1, by rw [sizeLine_eq]; omega, ?_⟩
  have PL1 : PL (upd (upd H t (.tup [.str (S z), .ref fa])) l (.lst (us ++ [.ref t]))) l (X ++ [(z, f)]) := by
    refine ⟨_, upd_same, ((hX.same st).upd h1).app (.one ⟨fa, tup_upd h1 _ _ upd_same, tup_upd h1 _ _ (st _ _ hf)⟩)⟩
  refine ⟨_, rfl, _, rfl, _, rfl, l, X ++ [(z, f)], b, m, rfl, PL1, fun p hp => ?_, hm, by simp; omega, by omega, fun p hp => ?_, fun H' s' p' => q _ H' ((SameX.updL (.of st)).trans s') p'⟩
  · rcases List.mem_append.mp hp with x | x
    · exact lX p x
    · rw [List.mem_singleton.mp x]
      exact lf
  · rcases List.mem_append.mp hp with x | x
    · exact ws p x
    · rw [List.mem_singleton.mp x]
      exact lz
theorem power_tail1 (T : Txt K mg CK C) (f0 : Addr) (cdv : Value) (A : Around) (outer : List Env) (s : Shared) (H0 : Hp) (E : XK) (hr : Room 2 (A.deeper (envOfC "put_power" (C8.fnScope (topS 69)) s.heap.objs.size f0 cdv))) :
    ∃ u, PSs (cxOf C8.CX0 P w K mg base ["ready", "word", "form", "many", "behind", "ahead", "moved"] "put_power" (C8.fnScope (topS 69)) f0 cdv A outer s H0 E).nox ((C8.fnBody (topS 69)).drop 3) u ∧
      ∀ (D : Ends) (σ : L2.St) (H : Hp) (l fa : Addr) (us : List V) (X : List Pn) (z b : List Nat) (f : F) (m : Nat) (y5 y6 : Option V), σ = [some (.ref l), some (.str (S z)), some (.ref fa), some (.int m), some (.str (S b)), y5, y6] → H l = some (.lst us) → Pcs H us X → FT H fa f → f.length = m + 1 → LenF m X → m ≤ 3 → X.length < 900000 → b.length ≤ 100000 → z.length ≤ 100000 → Ws 100000 X →
        (∀ σ H', SameX l H H' → PL H' l (joinF (pushP X z f) b m) → D.nx σ H') → u D σ H := by
  obtain ⟨u2, hu2, tail⟩ := power_tail2 (P := P) (w := w) (base := base) T f0 cdv A outer s H0 E hr
  refine ⟨_, (pss_cons (ps_if (PW.pt (pw_and (pt_truth (pv 0) (by intro _; rfl)) (pw_and (pt_val (C8.pe_c (c_is_power T) hr (by decide) (by rfl) (pa_cons (pe_ix ix_list (pv 0) (pe_un un_neg pe_int) (fun _ _ => rfl)) pa_nil))) (pw_and1 (pt_cmpR op_eq (pe_ix ix_tup (pe_ix ix_list (pv 0) (pe_un un_neg pe_int) (fun _ _ => rfl)) pe_int (fun _ _ => rfl)) (pv 1) (nomark _))))))
    (pss_one (ps_set (i := 2) sc_put_power.nd rfl (Or.inl rfl) (C8.pe_c (c_form_sum T) hr (by decide) (by rfl) (pa_cons (pe_ix ix_tup (pe_bm0 PySem.F.plainAttrs_list PySem.F.slot_list_pop PySem.F.type_list_pop mt_pop (pv 0)) pe_int (fun _ _ => rfl)) (pa_cons (pv 2) pa_nil)))))
    pss_nil)
    hu2), ?_⟩
  intro D σ H l fa us X z b f m y5 y6 eσ hl hX hf lf lX hm hn lb lz ws q
  subst eσ
  have lu := hX.len
  cases hlast : us.getLast? with
  | none =>
    have ve : us = [] := List.getLast?_eq_none_iff.mp hlast
    have ae : X = [] := List.length_eq_zero_iff.mp (by rw [← lu, ve]; rfl)
    have ep : pushP X z f = X ++ [(z, f)] := by rw [ae]; rfl
    rw [ep] at q
    refine ⟨_, rfl, false, .inl ⟨_, .inl (.inl hl), by rw [ve]; rfl⟩, iteF (iteF ?_)⟩
    exact tail _ H l fa us X z b f m y5 y6 hl hX hf lf lX hm hn lb lz ws q
  | some v =>
    have hv : us[us.length - 1]? = some v := by rw [← List.getLast?_eq_getElem?]; exact hlast
    obtain ⟨c, p, rfl, hpi, pc⟩ := hX.get hv
    have ha : X.getLast? = some p := by rw [List.getLast?_eq_getElem?, ← lu]; exact hpi
    have mem := List.mem_of_getLast? ha
    have other : ¬ (isPow p = true ∧ p.1 = z) → u2 D [some (.ref l), some (.str (S z)), some (.ref fa), some (.int m), some (.str (S b)), y5, y6] H := fun no => by
      have ep : pushP X z f = X ++ [(z, f)] := by
        unfold pushP
        rw [ha]
        simp [no]
      rw [ep] at q
      exact tail _ H l fa us X z b f m y5 y6 hl hX hf lf lX hm hn lb lz ws q
    refine ⟨_, rfl, true, .inl ⟨_, .inl (.inl hl), (not_empty hlast).symm⟩, iteT ?_⟩
    refine ⟨_, rfl, 1, rfl, l, _, -1, _, rfl, rfl, .inl (.inl hl), last_at hv, c, p, m, rfl, pc, lX p mem, _, rfl, ?_⟩
    cases ep : isPow p with
    | false => exact iteF (iteF (other fun z => by rw [ep] at z; cases z.1))
    | true =>
      obtain ⟨fp, h1, h2⟩ := id pc
      refine iteT ⟨_, rfl, 1, rfl, l, _, -1, _, rfl, rfl, .inl (.inl hl), last_at hv, c, _, 0, _, rfl, rfl, .inl (.inl h1), atI_nat (j := 0) rfl, _, rfl, rfl, _, rfl, ite2 (fun e => ?_) (fun e => ?_)⟩
      · have e1 : p.1 = z := S_inj (V.str.inj (of_decide_eq_true e))
        have es : pushP X z f = X.dropLast ++ [(z, addF p.2 f)] := by
          unfold pushP
          rw [ha]
          simp [ep, e1]
        rw [es] at q
        have lp := lX p mem
        have h2' : FT (upd H l (.lst us.dropLast)) fp p.2 := tup_upd hl _ _ h2
        refine ⟨_, rfl, .inl ⟨rfl, _, .inl (.inl hl)⟩, l, _, _, rfl, rfl, hl, hv, c, _, 1, _, rfl, rfl, .inl (.inl (tup_upd hl _ _ h1)), atI_nat (j := 1) rfl, _, rfl, fp, fa, p.2, f, rfl, h2', tup_upd hl _ _ hf, by omega, by omega, fun fs H2 s2 h3 => ?_⟩
        have hl2 : H2 l = some (.lst us.dropLast) := s2 _ _ upd_same
        refine tail _ H2 l fs us.dropLast X.dropLast z b (addF p.2 f) m y5 y6 hl2 ((hX.init.upd hl).same s2) h3 (by rw [len_add (by omega)]; exact lf) (fun r hr' => lX r (mem_dropLast hr')) hm (by rw [List.length_dropLast]; omega) lb lz (fun r hr' => ws r (mem_dropLast hr')) fun σ H' s' p' => q σ H' (((SameX.updL (.refl _ _)).trans (.of s2)).trans s') p'
      · exact other fun y => e (decide_eq_true (by rw [y.2]))
def sp_put_power : Sp := fun vs H Q _ => ∃ (l fa : Addr) (acc : List Pn) (z : List Nat) (f : F) (m : Nat), vs = [.ref l, .str (S z), .ref fa] ∧ PL H l acc ∧ FT H fa f ∧ f.length = m + 1 ∧ LenF m acc ∧ m ≤ 3 ∧ acc.length < 100000 ∧ z ≠ [] ∧ z.length ≤ 10000 ∧ Ws 10000 acc ∧
  ∀ H', SameX l H H' → PL H' l (putP acc z f) → Q .non H'
theorem c_put_power (T : Txt K mg CK C) : C8.Cal P w K mg base 3 "put_power" sp_put_power [] := by
  refine calF T.d_put_power sc_put_power (fun vs H Q E h => ?_) (fun f0 cdv A outer s H vs Q E hr h => ?_)
  · obtain ⟨_, _, _, _, _, _, rfl, _⟩ := h; rfl
  · obtain ⟨l, fa, acc, z, f, m, rfl, ⟨vs, hl, hp⟩, hf, lf, lA, hm, hacc, zne, hz, ws, q⟩ := h
    have lv := hp.len
    have em : f.length - 1 = m := by omega
    obtain ⟨u1, hu1, tail⟩ := power_tail1 (P := P) (w := w) (base := base) T f0 cdv A outer s H E hr
    refine ⟨_, (pss_cons (ps_set (i := 3) sc_put_power.nd rfl (Or.inl rfl) (pe_op op_sub (pe_callB call_len_seq (by rfl) T.m_len (by decide +kernel) (pa_cons (pv 2) pa_nil)) pe_int))
    (pss_cons (ps_set (i := 4) sc_put_power.nd rfl (Or.inl rfl) pe_str)
    (pss_cons (ps_if (PW.pt (pw_and (pt_truth (pv 0) (by intro _; rfl)) (pw_and1 (pt_not (pt_val (C8.pe_c (c_is_power T) hr (by decide) (by rfl) (pa_cons (pe_ix ix_list (pv 0) (pe_un un_neg pe_int) (fun _ _ => rfl)) pa_nil)))))))
    (pss_cons (ps_set (i := 5) sc_put_power.nd rfl (Or.inl rfl) (pe_ix ix_tup (pe_bm0 PySem.F.plainAttrs_list PySem.F.slot_list_pop PySem.F.type_list_pop mt_pop (pv 0)) pe_int (fun _ _ => rfl)))
    (pss_cons (ps_set (i := 6) sc_put_power.nd rfl (Or.inl rfl) (C8.pe_c (c_alike_behind T) hr (by decide) (by rfl) (pa_cons (pv 5) (pa_cons (C8.pe_c (c_stretch T) hr (by decide) (by rfl) (pa_cons (pv 1) (pa_cons (pe_un un_neg (pe_callB call_len_str (by rfl) T.m_len (by decide +kernel) (pa_cons (pv 5) pa_nil))) (pa_cons (pe_callB call_len_str (by rfl) T.m_len (by decide +kernel) (pa_cons (pv 5) pa_nil)) pa_nil)))) pa_nil))))
    (pss_cons (ps_set (i := 4) sc_put_power.nd rfl (Or.inl rfl) (pe_slice C8.sl_txt (pv 5) (po_some (pe_op op_sub (pe_callB call_len_str (by rfl) T.m_len (by decide +kernel) (pa_cons (pv 5) pa_nil)) (pv 6))) po_none))
    (pss_cons (ps_set (i := 1) sc_put_power.nd rfl (Or.inl rfl) (C8.pe_c (c_turned_word T) hr (by decide) (by rfl) (pa_cons (pv 1) (pa_cons (pe_un un_neg (pv 6)) pa_nil))))
    (pss_one (ps_expr (C8.pe_c (c_put_fixed T) hr (by decide) (by rfl) (pa_cons (pv 0) (pa_cons (pe_slice C8.sl_txt (pv 5) po_none (po_some (pe_op op_sub (pe_callB call_len_str (by rfl) T.m_len (by decide +kernel) (pa_cons (pv 5) pa_nil)) (pv 6)))) (pa_cons (pv 3) pa_nil))))))))))
    pss_nil)
    hu1))), ?_⟩
    refine ⟨_, rfl, fa, _, rfl, .inr (.inl (.inl hf)), _, _, rfl, rfl, ?_⟩
    have lm : (((f.map fun n : Nat => V.int (n : Nat)).length : Nat) : Int) - 1 = (m : Int) := by rw [List.length_map, lf]; omega
    have eS : (V.str "") = V.str (S []) := by decide +kernel
    have eσ : [some (V.ref l), some (V.str (S z)), some (V.ref fa), some (V.int ((((f.map fun n : Nat => V.int (n : Nat)).length : Nat) : Int) - 1)), some (V.str ""), none, none] = [some (V.ref l), some (V.str (S z)), some (V.ref fa), some (V.int (m : Nat)), some (V.str (S [])), none, none] := by rw [lm, eS]
    have simple : (∀ q, acc.getLast? = some q → isPow q = true) → u1 { nx := fun _ H' => Q .non H', rt := Q } [some (V.ref l), some (V.str (S z)), some (V.ref fa), some (V.int ((((f.map fun n : Nat => V.int (n : Nat)).length : Nat) : Int) - 1)), some (V.str ""), none, none] H := fun hp' => by
      have e : putP acc z f = joinF (pushP acc z f) [] m := by
        unfold putP
        rw [em]
        split
        · next q hq => rw [if_pos (hp' q hq)]
        · rfl
      rw [e] at q
      exact tail _ _ H l fa vs acc z [] f m none none eσ hl hp hf lf lA hm (by omega) (by simp) (by omega) (fun p hp => by have := ws p hp; omega) fun _ H' s' p' => q H' s' p'
    cases hlast : vs.getLast? with
    | none =>
      have ve : vs = [] := List.getLast?_eq_none_iff.mp hlast
      have ae : acc = [] := List.length_eq_zero_iff.mp (by rw [← lv, ve]; rfl)
      refine ⟨_, rfl, false, .inl ⟨_, .inl (.inl hl), by rw [ve]; rfl⟩, iteF (iteF ?_)⟩
      exact simple fun q hq => by rw [ae] at hq; cases hq
    | some v =>
      have hv : vs[vs.length - 1]? = some v := by rw [← List.getLast?_eq_getElem?]; exact hlast
      obtain ⟨b, p, rfl, hpi, pc⟩ := hp.get hv
      have ha : acc.getLast? = some p := by rw [List.getLast?_eq_getElem?, ← lv]; exact hpi
      have mem := List.mem_of_getLast? ha
      refine ⟨_, rfl, true, .inl ⟨_, .inl (.inl hl), (not_empty hlast).symm⟩, iteT ?_⟩
      refine ⟨_, rfl, 1, rfl, l, _, -1, _, rfl, rfl, .inl (.inl hl), last_at hv, b, p, m, rfl, pc, lA p mem, _, rfl, ?_⟩
      cases ep : isPow p with
      | true => exact iteF (simple fun q hq => by rw [ha] at hq; cases hq; exact ep)
      | false =>
        have e : putP acc z f = joinF (pushP (joinF acc.dropLast (p.1.take (p.1.length - movedE p.1 z)) m) (rotR z (movedE p.1 z)) f) (p.1.drop (p.1.length - movedE p.1 z)) m := by
          unfold putP
          rw [ha, em]
          simp [ep]
        rw [e] at q
        obtain ⟨fp, h1, h2⟩ := id pc
        have lp := ws p mem
        have mle := movedE_le p.1 z
        have hl1 : (upd H l (.lst vs.dropLast)) l = some (.lst vs.dropLast) := upd_same
        have hp1 := hp.init.upd (ys := vs.dropLast) hl
        have hf1 : FT (upd H l (.lst vs.dropLast)) fa f := tup_upd hl _ _ hf
        refine iteT ⟨_, rfl, .inl ⟨rfl, _, .inl (.inl hl)⟩, l, _, _, rfl, rfl, hl, hv, b, _, 0, _, rfl, rfl, .inl (.inl (tup_upd hl _ _ h1)), atI_nat (j := 0) rfl, ?_⟩
        generalize hmv : movedE p.1 z = mv at mle q
        have emv : WM.lcp p.1.reverse (tailE z p.1.length).reverse = mv := hmv
        refine ⟨_, rfl, _, rfl, _, rfl, S p.1, rfl, len_line (by omega), _, rfl, _, rfl, S p.1, rfl, len_line (by omega), z, p.1.length, by rw [S_len]; rfl, zne, by omega, by omega, p.1, tailE z p.1.length, rfl, by omega, by rw [tailE_len zne]; omega, ?_⟩
        rw [emv]
        refine ⟨_, rfl, _, rfl, S p.1, rfl, len_line (by omega), _, rfl, _, _, rfl, rfl, ((p.1.length - mv : Nat) : Int), congrArg V.int (by rw [S_len]; omega), S p.1, rfl, len_line (by omega), ?_⟩
        rw [SX.slice_from (by omega), Int.toNat_natCast]
        refine ⟨_, rfl, _, rfl, _, rfl, z, -(mv : Int), rfl, by omega, zne, ?_⟩
        rw [rotZ_neg zne]
        refine ⟨_, rfl, _, rfl, _, rfl, S p.1, rfl, len_line (by omega), _, rfl, _, _, rfl, rfl, ((p.1.length - mv : Nat) : Int), congrArg V.int (by rw [S_len]; omega), S p.1, rfl, len_line (by omega), ?_⟩
        rw [SX.slice_to (by omega), Int.toNat_natCast]
        refine ⟨_, rfl, l, acc.dropLast, p.1.take (p.1.length - mv), m, by
          show [V.ref l, V.str _, V.int ((((f.map fun n : Nat => V.int (n : Nat)).length : Nat) : Int) - 1)] = _
          rw [lm], ⟨_, hl1, hp1⟩, fun r hr' => lA r (mem_dropLast hr'), hm, by rw [List.length_dropLast]; omega, by rw [List.length_take]; omega, fun r hr' => by have := ws r (mem_dropLast hr'); omega, fun H2 s2 p2 => ?_⟩
        obtain ⟨us, hus, pus⟩ := p2
        have wsJ : Ws 20000 (joinF acc.dropLast (p.1.take (p.1.length - mv)) m) := ws_joinF (B := 10000) (fun r hr' => ws r (mem_dropLast hr')) (by rw [List.length_take]; omega)
        have lJ := len_joinF acc.dropLast (p.1.take (p.1.length - mv)) m
        rw [List.length_dropLast] at lJ
        refine tail _ _ H2 l fa us _ (rotR z mv) (p.1.drop (p.1.length - mv)) f m (some (.str (S p.1))) (some (.int (mv : Nat))) (by
          show [some (V.ref l), some (V.str (S (rotR z mv))), some (V.ref fa), some (V.int ((((f.map fun n : Nat => V.int (n : Nat)).length : Nat) : Int) - 1)), some (V.str (S (p.1.drop (p.1.length - mv)))), some (V.str (S p.1)), some (V.int (mv : Nat))] = _
          rw [lm]) hus pus (tup_sameX hl1 s2 _ _ hf1) lf (lenF_joinF fun r hr' => lA r (mem_dropLast hr')) hm (by omega) (by rw [List.length_drop]; omega) (by rw [rotR_len]; omega) (fun r hr' => by have := wsJ r hr'; omega) fun σ H' s' p' => q H' (((SameX.updL (.refl _ _)).trans s2).trans s') p'
end
end K39

set_option Elab.async false
set_option linter.all false
set_option maxRecDepth 100000
set_option maxHeartbeats 4000000
namespace K39
open PySem PySem.Spec PyProof.Rows L2 CK SX NM
/-- what holds between two statements -/
theorem cut_seq {t u : TS} {D : Ends} {σ : L2.St} {H : Hp} (Mid : L2.St → Hp → Prop) (h1 : ∀ K : L2.St → Hp → Prop, (∀ σ' H', Mid σ' H' → K σ' H') → t { D with nx := K } σ H) (h2 : ∀ σ' H', Mid σ' H' → u D σ' H') : tSeq t u D σ H := h1 _ h2
theorem meas_cons (p : Pn) (r : List Pn) : meas (p :: r) = measP p + meas r := by simp [meas]
theorem le_meas : ∀ {l : List Pn} {p : Pn}, p ∈ l → measP p ≤ meas l
  | [], _, h => absurd h List.not_mem_nil
  | q :: r, p, h => by
    rw [meas_cons]
    rcases List.mem_cons.mp h with x | x
    · rw [x]; omega
    · have := le_meas x
      omega
theorem len_meas : ∀ {l : List Pn}, (∀ p ∈ l, 1 ≤ measP p) → l.length ≤ meas l
  | [], _ => Nat.zero_le _
  | p :: r, h => by
    have a := len_meas fun q hq => h q (List.mem_cons_of_mem _ hq)
    have b := h p List.mem_cons_self
    rw [meas_cons, List.length_cons]
    omega
theorem _root_.NM.Nm.small {m B : Nat} {l : List Pn} (h : Nm m l) (hb : meas l ≤ B) : l.length ≤ B ∧ Ws B l := by
  refine ⟨Nat.le_trans (len_meas fun p hp => ?_) hb, fun p hp => Nat.le_trans (measP_le (h.all p hp)) (Nat.le_trans (le_meas hp) hb)⟩
  exact Nat.le_trans (List.length_pos_iff.mpr (h.all p hp).ne) (measP_le (h.all p hp))
theorem nm_stepA' {m : Nat} {acc : List Pn} {p : Pn} (h : Nm m acc) (hl : p.2.length = m + 1) : Nm m (stepA acc p) ∧ meas (stepA acc p) ≤ meas acc + p.1.length := by
  refine ⟨nm_stepA h hl, ?_⟩
  unfold stepA
  split
  · next z =>
    have lt : (timesF (p.1.length / WM.rootN p.1) (0 :: p.2.tail)).length = m + 1 := by unfold timesF; simp [hl]
    have := meas_putP h (u := p.1.take (WM.rootN p.1)) lt (by simp [timesF])
    rw [List.length_take] at this
    omega
  · omega
theorem meas_take_step {ps : List Pn} {m i : Nat} {p : Pn} (h : LenF m ps) (hp : ps[i]? = some p) : meas ((ps.take i).foldl stepN []) + measP p ≤ meas ps := by
  have a := meas_fold (ps.take i) [] (Nm.nil (m := m)) fun q hq => h q (List.mem_of_mem_take hq)
  have e : meas ([] : List Pn) = 0 := rfl
  have hi := (List.getElem?_eq_some_iff.mp hp).1
  have s : ps = ps.take i ++ (p :: ps.drop (i + 1)) := by
    conv => lhs; rw [← List.take_append_drop i ps]
    rw [← List.getElem_cons_drop hi, (List.getElem?_eq_some_iff.mp hp).2]
  have b : meas ps = meas (ps.take i) + (measP p + meas (ps.drop (i + 1))) := by
    conv => lhs; rw [s]
    rw [meas_app, meas_cons]
  omega
section
variable {P : Program} {w : World} {K : PySem.W.Frag} {mg : Str → Option Value} {base : Heap} {CK C : Addr}
def sp_normal_pieces : Sp := fun vs H Q _ => ∃ (l : Addr) (ps : List Pn) (m : Nat), vs = [.ref l] ∧ PL H l ps ∧ LenF m ps ∧ m ≤ 3 ∧ meas ps ≤ 5000 ∧ Ws 5000 ps ∧ (∀ p ∈ ps, Bf p.2) ∧ ps.length ≤ 100000 ∧
  ∀ r H', Same H H' → H r = none → PL H' r (normL ps) → Q (.ref r) H'
theorem c_normal_pieces (T : Txt K mg CK C) : C8.Cal P w K mg base 4 "normal_pieces" sp_normal_pieces [] := by
  refine calF T.d_normal_pieces sc_normal_pieces (fun vs H Q E h => ?_) (fun f0 cdv A outer s H vs Q E hr h => ?_)
  · obtain ⟨_, _, _, rfl, _⟩ := h; rfl
  · obtain ⟨l, ps, m, rfl, ⟨vs, hl, hp⟩, lF, hm, hmeas, hws, hbf, hlen, q⟩ := h
    have lv := hp.len
    refine ⟨_, (pss_cons (ps_set (i := 1) sc_normal_pieces.nd rfl (Or.inl rfl) (pe_lst pa_nil))
    (pss_cons (ps_for PassesOwn.never rfl (pi_list (pv 0)) (pg_two (K := K) (i := 2) (j := 3) rfl rfl sc_normal_pieces.nd rfl rfl (Or.inl rfl) (Or.inl rfl))
    (pss_cons (ps_if (PW.pt (pw_and (pt_truth (pv 2) (by intro _; rfl)) (pw_and1 (pt_val (C8.pe_c (c_is_open_form T) hr (by decide) (by rfl) (pa_cons (pv 3) pa_nil))))))
    (pss_cons (ps_set (i := 4) sc_normal_pieces.nd rfl (Or.inl rfl) (C8.pe_c (c_root_size T) hr (by decide) (by rfl) (pa_cons (pv 2) pa_nil)))
    (pss_one (ps_expr (C8.pe_c (c_put_power T) hr (by decide) (by rfl) (pa_cons (pv 1) (pa_cons (pe_slice C8.sl_txt (pv 2) po_none (po_some (pv 4))) (pa_cons (C8.pe_c (c_form_times T) hr (by decide) (by rfl) (pa_cons (pe_op op_fdivZ (pe_callB call_len_str (by rfl) T.m_len (by decide +kernel) (pa_cons (pv 2) pa_nil)) (pv 4)) (pa_cons (pe_op op_catS (pe_tup (pa_cons pe_int pa_nil)) (pe_slice sl_drop (pv 3) (po_some pe_int) po_none)) pa_nil))) pa_nil)))))))
    pss_nil)
    (pss_one (ps_if (PW.pt (pw_and (pt_truth (pv 2) (by intro _; rfl)) (pw_and1 (pt_truth (pe_ix ix_tup (pv 3) pe_int (fun _ _ => rfl)) (by intro _; rfl)))))
    (pss_one (ps_expr (C8.pe_c (c_put_fixed T) hr (by decide) (by rfl) (pa_cons (pv 1) (pa_cons (pe_op op_repM (pv 2) (pe_ix ix_tup (pv 3) pe_int (fun _ _ => rfl))) (pa_cons (pe_op op_sub (pe_callB call_len_seq (by rfl) T.m_len (by decide +kernel) (pa_cons (pv 3) pa_nil)) pe_int) pa_nil))))))
    pss_nil))))
    (pss_one (ps_ret (pv 1))))), ?_⟩
    refine ⟨by show 0 ≤ sizeLine; omega, fun r hr0 => ?_⟩
    have rl : r ≠ l := fun z => by rw [z, hl] at hr0; cases hr0
    have s0 := sameNew (o := .lst []) hr0
    refine ⟨_, rfl, l, rfl, ⟨_, .inl (.inl (s0 _ _ hl))⟩, for_list (K := K) (a := l) (xs := vs) (fun i σ H' => Same H H' ∧ (∃ y2 y3 y4, σ = [some (.ref l), some (.ref r), y2, y3, y4]) ∧ PL H' r ((ps.take i).foldl stepN []))
      ⟨s0, ⟨none, none, none, rfl⟩, [], upd_same, .nil⟩ (fun i σ H' _ p => .inl (.inl (p.1 _ _ hl))) (fun i y σ H' hi pI => ?_) (fun σ H' pI => ?_)⟩
    · obtain ⟨s1, ⟨y2, y3, y4, rfl⟩, pl⟩ := pI
      obtain ⟨a, p, rfl, hpi, pc⟩ := hp.get hi
      have mem := List.mem_of_getElem? hpi
      have lp := lF p mem
      have wp := hws p mem
      have bp := hbf p mem
      have step := meas_take_step lF hpi
      have nm : Nm m ((ps.take i).foldl stepN []) := nm_fold _ [] .nil fun q hq => lF q (List.mem_of_mem_take hq)
      have et : (ps.take (i + 1)).foldl stepN [] = stepN ((ps.take i).foldl stepN []) p := by rw [List.take_succ, hpi, List.foldl_append]; rfl
      rw [et]
      generalize (ps.take i).foldl stepN [] = acc at pl nm step
      obtain ⟨nmA, mA⟩ := nm_stepA' nm lp
      have sm := nm.small (B := 5000) (by omega)
      have smA := nmA.small (B := 10000) (by omega)
      obtain ⟨fa, h1, h2⟩ := pc.mono (tup_same s1)
      refine ⟨a, _, rfl, .inl (.inl h1), rfl, _, _, rfl, _, _, rfl, rfl, ?_⟩
      refine cut_seq (fun σ' H2 => SameX r H' H2 ∧ (∃ y4, σ' = [some (.ref l), some (.ref r), some (.str (S p.1)), some (.ref fa), y4]) ∧ PL H2 r (stepA acc p)) (fun K hK => ?_) fun σ' H2 pM => ?_
      · refine ⟨_, rfl, _, tru_word (by omega), ?_⟩
        by_cases ne : p.1 = []
        · rw [decide_eq_false (fun z => z ne)]
          refine iteF (iteF (hK _ _ ⟨.refl _ _, ⟨_, rfl⟩, ?_⟩))
          have e : stepA acc p = acc := by unfold stepA; rw [if_neg fun z => z.1 ne]
          rw [e]
          exact pl
        · rw [decide_eq_true ne]
          refine iteT ⟨_, rfl, fa, p.2, rfl, h2, fun H1 s2 => ⟨_, rfl, ?_⟩⟩
          cases op : isOpen p.2 with
          | false =>
            refine iteF (hK _ _ ⟨.of s2, ⟨_, rfl⟩, ?_⟩)
            have e : stepA acc p = acc := by unfold stepA; rw [if_neg fun z => by rw [op] at z; exact Bool.false_ne_true z.2]
            rw [e]
            exact pl.same s2
          | true =>
            have n0 := List.length_pos_iff.mpr ne
            have r0 := WM.rootN_pos ne
            have rl' := WM.rootN_le ne
            refine iteT ⟨_, rfl, p.1, rfl, ne, by omega, fun H3 s3 => ?_⟩
            have e : stepA acc p = putP acc (p.1.take (WM.rootN p.1)) (timesF (p.1.length / WM.rootN p.1) (0 :: p.2.tail)) := by unfold stepA; rw [if_pos ⟨ne, op⟩]
            refine ⟨_, rfl, _, rfl, _, rfl, _, rfl, S p.1, rfl, len_line (by omega), _, rfl, S p.1, rfl, len_line (by omega), _, rfl, p.1.length, WM.rootN p.1, congrArg (fun n : Nat => V.int n) (S_len p.1), rfl, by omega, by omega, by show 1 ≤ sizeLine; decide, fun t1 n1 => ?_⟩
            have st1 := sameNew (o := .tup [V.int 0]) n1
            have h23 := st1 _ _ ((s2.trans s3) _ _ h2)
            refine ⟨_, rfl, 1, rfl, fa, _, 1, rfl, rfl, rfl, h23, fun p4 H4 s4 h4 => ?_⟩
            have l4 : ((p.2.map fun n : Nat => V.int (n : Nat)).drop 1).length ≤ 4 := by rw [List.length_drop, List.length_map]; omega
            refine ⟨t1, p4, _, _, rfl, rfl, s4 _ _ upd_same, h4, Nat.le_trans (Nat.add_le_add_left l4 1) (by decide), fun p5 H5 s5 h5 => ?_⟩
            have hF5 : FT H5 p5 (0 :: p.2.tail) := by
              unfold FT
              obtain ⟨x, f, ef⟩ : ∃ x f, p.2 = x :: f := by
                cases e : p.2 with
                | nil => rw [e] at lp; simp at lp
                | cons x f => exact ⟨x, f, rfl⟩
              rw [h5, ef]
              rfl
            have sk : p.1.length / WM.rootN p.1 ≤ p.1.length := Nat.div_le_self _ _
            refine ⟨p.1.length / WM.rootN p.1, p5, 0 :: p.2.tail, rfl, hF5, by simp [lp]; omega, by omega, fun n hn => ?_, fun p6 H6 s6 h6 => ?_⟩
            · rcases List.mem_cons.mp hn with x | x
              · omega
              · exact bp n (List.mem_of_mem_tail x)
            · have sAll : Same H' H6 := ((((s2.trans s3).trans st1).trans s4).trans s5).trans s6
              refine ⟨r, p6, acc, p.1.take (WM.rootN p.1), timesF (p.1.length / WM.rootN p.1) (0 :: p.2.tail), m, ?_, pl.same sAll, h6, by unfold timesF; simp [lp], nm.lenF, hm, by omega, fun z => ?_, by rw [List.length_take]; omega, fun x hx => by have := sm.2 x hx; omega, fun H7 s7 p7 => hK _ _ ⟨(SameX.of sAll).trans s7, ⟨_, rfl⟩, by rw [e]; exact p7⟩⟩
              · rw [SX.slice_to (by omega), Int.toNat_natCast]
                rfl
              · have := congrArg List.length z
                rw [List.length_take, List.length_nil] at this
                omega
      · obtain ⟨sX, ⟨y4, rfl⟩, plA⟩ := pM
        have rne : ∀ {b : Addr} {xs : List V}, H' b = some (.tup xs) → H2 b = some (.tup xs) := fun {b xs} e => by
          obtain ⟨us, hus, _⟩ := pl
          exact sX _ _ (fun z => by rw [z, hus] at e; cases e) e
        have h2' : FT H2 fa p.2 := rne h2
        have sH : ∀ {H3 : Hp}, SameX r H' H3 → Same H H3 := fun {H3} sx b o eb => sx _ _ (fun z => by rw [z, hr0] at eb; cases eb) (s1 _ _ eb)
        refine ⟨_, rfl, _, tru_word (by omega), ?_⟩
        have skip : ¬ (p.1 ≠ [] ∧ p.2.headD 0 ≠ 0) → PL H2 r (stepN acc p) := fun no => by
          have e : stepN acc p = stepA acc p := by
            unfold stepN stepB
            rw [if_neg no]
          rw [e]
          exact plA
        by_cases ne : p.1 = []
        · rw [decide_eq_false (fun z => z ne)]
          exact iteF (iteF ⟨sH sX, ⟨_, _, _, rfl⟩, skip fun z => z.1 ne⟩)
        · rw [decide_eq_true ne]
          refine iteT ⟨_, rfl, fa, _, 0, _, rfl, rfl, .inl (.inl h2'), atI_nat (j := 0) (head_get lp), _, rfl, ?_⟩
          by_cases h0 : p.2.headD 0 = 0
          · rw [h0]
            exact iteF ⟨sH sX, ⟨_, _, _, rfl⟩, skip fun z => z.2 h0⟩
          · rw [show ((((p.2.headD 0 : Nat) : Int)) != 0) = true by rw [bne_iff_ne]; omega]
            have mP : p.1.length * p.2.headD 0 ≤ measP p := by unfold measP; exact Nat.mul_le_mul_left _ (by omega)
            have n0 := List.length_pos_iff.mpr ne
            have hh : p.2.headD 0 ≤ p.1.length * p.2.headD 0 := Nat.le_mul_of_pos_left _ n0
            have lw : (WM.pw p.1 (p.2.headD 0)).length ≤ 5000 := by rw [WM.pw_len]; omega
            have lm : (((p.2.map fun n : Nat => V.int (n : Nat)).length : Nat) : Int) - 1 = (m : Int) := by rw [List.length_map, lp]; omega
            refine iteT ⟨_, rfl, _, rfl, _, rfl, fa, _, 0, _, rfl, rfl, .inl (.inl h2'), atI_nat (j := 0) (head_get lp), p.1, p.2.headD 0, rfl, rfl, by omega, by omega, by rw [Nat.mul_comm]; omega, ?_⟩
            refine ⟨_, rfl, fa, _, rfl, .inr (.inl (.inl h2')), _, _, rfl, rfl, r, stepA acc p, WM.pw p.1 (p.2.headD 0), m, ?_, plA, nmA.lenF, hm, by omega, by omega, fun x hx => by have := smA.2 x hx; omega, fun H3 s3 p3 => ⟨sH (sX.trans s3), ⟨_, _, _, rfl⟩, ?_⟩⟩
            · show [V.ref r, V.str (S (WM.pw p.1 (p.2.headD 0))), V.int ((((p.2.map fun n : Nat => V.int (n : Nat)).length : Nat) : Int) - 1)] = _
              rw [lm]
            · have e : stepN acc p = joinF (stepA acc p) (WM.pw p.1 (p.2.headD 0)) m := by unfold stepN stepB; rw [if_pos ⟨ne, h0⟩, lp]; rfl
              rw [e]
              exact p3
    · obtain ⟨s1, ⟨y2, y3, y4, rfl⟩, pl⟩ := pI
      rw [lv, List.take_length] at pl
      exact ⟨_, rfl, q r H' s1 hr0 pl⟩
end
end K39

set_option Elab.async false
set_option linter.all false
set_option maxRecDepth 100000
set_option maxHeartbeats 4000000
namespace K39
open PySem PySem.Spec PyProof.Rows L2 CK SX NM
/-! ### pieces as data -/
def dF (f : F) : PyData := .tuple (f.map fun n : Nat => PyData.int (n : Nat))
def dP (p : Pn) : PyData := .tuple [.str (S p.1), dF p.2]
theorem eqvAll_nats : ∀ f g : F, PyData.eqvAll (f.map fun n : Nat => PyData.int (n : Nat)) (g.map fun n : Nat => PyData.int (n : Nat)) = decide (f = g)
  | [], [] => by simp [PyData.eqvAll]
  | [], _ :: _ => by simp [PyData.eqvAll]
  | _ :: _, [] => by simp [PyData.eqvAll]
  | x :: f, y :: g => by
    rw [List.map_cons, List.map_cons, PyData.eqvAll, eqvAll_nats f g]
    simp [PyData.eqv, Bool.beq_eq_decide_eq]
    by_cases h : x = y
    · subst h
      simp
    · have h' : ¬ ((x : Int) = (y : Int)) := by omega
      simp [h, h']
theorem eqv_dP (p q : Pn) : PyData.eqv (dP p) (dP q) = decide (p = q) := by
  obtain ⟨a, f⟩ := p
  obtain ⟨b, g⟩ := q
  unfold dP dF
  simp only [PyData.eqv, PyData.eqvAll, eqvAll_nats, Bool.and_true]
  have e : (S a == S b) = decide (a = b) := S_beq_eq
  simp only [e]
  by_cases h1 : a = b <;> by_cases h2 : f = g <;> simp [h1, h2]
theorem eqvAll_dP : ∀ a b : List Pn, PyData.eqvAll (a.map dP) (b.map dP) = decide (a = b)
  | [], [] => by simp [PyData.eqvAll]
  | [], _ :: _ => by simp [PyData.eqvAll]
  | _ :: _, [] => by simp [PyData.eqvAll]
  | x :: f, y :: g => by
    rw [List.map_cons, List.map_cons, PyData.eqvAll, eqvAll_dP f g, eqv_dP]
    by_cases h : x = y <;> simp [h]
theorem eqv_dPs (a b : List Pn) : PyData.eqv (.list (a.map dP)) (.list (b.map dP)) = decide (a = b) := by
  rw [← eqvAll_dP]
  simp [PyData.eqv]
theorem str_low {w : List Nat} (h : Low w) : PyData.strOk (S w) = true := by
  unfold PyData.strOk
  rw [← Array.all_toList, List.all_eq_true]
  exact fun c hc => decide_eq_true (by have := h c hc; omega)
theorem lay_nats : ∀ f : F, PyData.canLayAll0 (f.map fun n : Nat => PyData.int (n : Nat)) = true
  | [] => by simp [PyData.canLayAll0]
  | n :: ns => by
    rw [List.map_cons, PyData.canLayAll0, lay_nats ns]
    simp [PyData.canLay0]
theorem deep_nats : ∀ f : F, PyData.depthAll (f.map fun n : Nat => PyData.int (n : Nat)) = 0
  | [] => by simp [PyData.depthAll]
  | n :: ns => by
    rw [List.map_cons, PyData.depthAll, deep_nats ns]
    simp [PyData.depth]
theorem lay_dP {p : Pn} (h : Low p.1) : (dP p).canLay0 = true := by simp [dP, dF, PyData.canLay0, PyData.canLayAll0, str_low h, lay_nats]
theorem deep_dP (p : Pn) : (dP p).depth = 2 := by simp [dP, dF, PyData.depth, PyData.depthAll, deep_nats]
theorem lay_dPs : ∀ ps : List Pn, (∀ p ∈ ps, Low p.1) → PyData.canLayAll0 (ps.map dP) = true
  | [], _ => by simp [PyData.canLayAll0]
  | p :: r, h => by
    rw [List.map_cons, PyData.canLayAll0, lay_dPs r fun q hq => h q (List.mem_cons_of_mem _ hq), lay_dP (h p List.mem_cons_self)]
    rfl
theorem deep_dPs : ∀ ps : List Pn, PyData.depthAll (ps.map dP) ≤ 2
  | [] => by simp [PyData.depthAll]
  | p :: r => by
    have := deep_dPs r
    rw [List.map_cons, PyData.depthAll, deep_dP]
    omega
theorem shaped_dPs {ps : List Pn} (h : ∀ p ∈ ps, Low p.1) : SeqAt.shaped (.list (ps.map dP)) = true := by
  unfold SeqAt.shaped
  rw [PyData.canLay0, lay_dPs ps h, PyData.depth]
  have := deep_dPs ps
  rw [decide_eq_true (by omega)]
  rfl
section
variable {K : PySem.W.Frag} {H : Hp}
theorem dpAll_nats : ∀ f : F, DpAll K H (f.map fun n : Nat => V.int (n : Nat)) (f.map fun n : Nat => PyData.int (n : Nat))
  | [] => .nil
  | n :: ns => .cons (.int _) (dpAll_nats ns)
theorem dp_FT {a : Addr} {f : F} (h : FT H a f) : Dp K H (.ref a) (dF f) := .tup (.inl (.inl h)) (dpAll_nats f)
theorem dp_PC {a : Addr} {p : Pn} (h : PC H a p) : Dp K H (.ref a) (dP p) := by
  obtain ⟨fa, h1, h2⟩ := h
  exact .tup (.inl (.inl h1)) (.cons (.str _) (.cons (dp_FT h2) .nil))
theorem dpAll_Pcs {vs : List V} {ps : List Pn} (h : Pcs H vs ps) : DpAll K H vs (ps.map dP) := by
  induction h with
  | nil => exact .nil
  | cons e _ ih => exact .cons (dp_PC e) ih
theorem dp_PL {l : Addr} {ps : List Pn} (h : PL H l ps) : Dp K H (.ref l) (.list (ps.map dP)) := by
  obtain ⟨vs, e, p⟩ := h
  exact .lst (.inl (.inl e)) (dpAll_Pcs p)
end
/-! ### letters stay letters -/
def LowP (ps : List Pn) : Prop := ∀ p ∈ ps, Low p.1
theorem low_app {a b : List Nat} (h : Low a) (g : Low b) : Low (a ++ b) := fun c hc => (List.mem_append.mp hc).elim (h c) (g c)
theorem low_take {a : List Nat} (h : Low a) (n : Nat) : Low (a.take n) := fun c hc => h c (List.mem_of_mem_take hc)
theorem low_drop {a : List Nat} (h : Low a) (n : Nat) : Low (a.drop n) := fun c hc => h c (List.mem_of_mem_drop hc)
theorem low_pw {a : List Nat} (h : Low a) : ∀ n, Low (WM.pw a n)
  | 0 => fun c hc => absurd hc List.not_mem_nil
  | n + 1 => by rw [WM.pw_succ]; exact low_app h (low_pw h n)
theorem low_rotR {u : List Nat} (h : Low u) (k : Nat) : Low (rotR u k) := low_app (low_drop h _) (low_take h _)
theorem lowP_joinF {acc : List Pn} {z : WM.W} {m : Nat} (h : LowP acc) (hz : Low z) : LowP (joinF acc z m) := fun p hp => by
  rcases mem_joinF hp with x | x | ⟨q, hq, x⟩
  · exact h p x
  · rw [x]; exact hz
  · rw [x]; exact low_app (h q hq) hz
theorem lowP_pushP {acc : List Pn} {u : WM.W} {f : F} (h : LowP acc) (hu : Low u) : LowP (pushP acc u f) := fun p hp => by
  unfold pushP at hp
  split at hp
  · split at hp
    · rcases List.mem_append.mp hp with x | x
      · exact h p (mem_dropLast x)
      · rw [List.mem_singleton.mp x]; exact hu
    · rcases List.mem_append.mp hp with x | x
      · exact h p x
      · rw [List.mem_singleton.mp x]; exact hu
  · rcases List.mem_append.mp hp with x | x
    · exact h p x
    · rw [List.mem_singleton.mp x]; exact hu
theorem low_nil : Low [] := fun c hc => absurd hc List.not_mem_nil
theorem lowP_putP {acc : List Pn} {u : WM.W} {f : F} (h : LowP acc) (hu : Low u) : LowP (putP acc u f) := by
  unfold putP
  split
  · next q hq =>
    split
    · exact lowP_joinF (lowP_pushP h hu) low_nil
    · have lq := h q (List.mem_of_getLast? hq)
      exact lowP_joinF (lowP_pushP (lowP_joinF (fun p hp => h p (mem_dropLast hp)) (low_take lq _)) (low_rotR hu _)) (low_drop lq _)
  · exact lowP_joinF (lowP_pushP h hu) low_nil
theorem lowP_fold : ∀ (ps acc : List Pn), LowP acc → LowP ps → LowP (ps.foldl stepN acc)
  | [], _, h, _ => h
  | p :: r, acc, h, hp => lowP_fold r _ (by
      have lp := hp p List.mem_cons_self
      have hA : LowP (stepA acc p) := by
        unfold stepA
        split
        · exact lowP_putP h (low_take lp _)
        · exact h
      show LowP (stepB (stepA acc p) p)
      unfold stepB
      split
      · exact lowP_joinF hA (low_pw lp _)
      · exact hA) fun q hq => hp q (List.mem_cons_of_mem _ hq)
theorem lowP_normL {ps : List Pn} (h : LowP ps) : LowP (normL ps) := lowP_fold ps [] (fun p hp => absurd hp List.not_mem_nil) h
end K39

set_option Elab.async false
set_option linter.all false
set_option maxRecDepth 100000
set_option maxHeartbeats 4000000
namespace K39
open PySem PySem.Spec PyProof.Rows L2 CK SX NM
theorem sum_meas : ∀ ps : List Pn, (ps.map fun p => ((measP p : Nat) : Int)).sum = ((meas ps : Nat) : Int)
  | [] => rfl
  | p :: r => by
    rw [List.map_cons, List.sum_cons, sum_meas r, meas_cons, Int.natCast_add]
/-- a value that is a piece, or one of the wrong ones that are met -/
inductive PV (H : Hp) (m : Nat) : V → Bool → Prop
  | good {a : Addr} {p : Pn} : PC H a p → p.2.length = m + 1 → p.1.length ≤ 2000 → Low p.1 → PV H m (.ref a) true
  | non : PV H m .non false
  | lst {a : Addr} {xs : List V} : H a = some (.lst xs) → PV H m (.ref a) false
  | long {a fa : Addr} {z : List Nat} : H a = some (.tup [.str (S z), .ref fa]) → 2000 < z.length → z.length ≤ 1000000 → Low z → PV H m (.ref a) false
theorem PV.same {H H' : Hp} {m : Nat} {v : V} {b : Bool} (h : PV H m v b) (s : Same H H') : PV H' m v b := by
  cases h with
  | good h1 h2 h3 h4 => exact .good (h1.mono (tup_same s)) h2 h3 h4
  | non => exact .non
  | lst h => exact .lst (s _ _ h)
  | long h1 h2 h3 h4 => exact .long (s _ _ h1) h2 h3 h4
section
variable {P : Program} {w : World} {K : PySem.W.Frag} {mg : Str → Option Value} {base : Heap} {CK C : Addr}
def sp_is_piece : Sp := fun vs H Q _ => ∃ (m : Nat) (v : V) (b : Bool), vs = [.int m, v] ∧ m ≤ 3 ∧ PV H m v b ∧ ∀ H', Same H H' → Q (.bl b) H'
theorem c_is_piece (T : Txt K mg CK C) : C8.Cal P w K mg base 4 "is_piece" sp_is_piece [] := by
  refine calF T.d_is_piece sc_is_piece (fun vs H Q E h => ?_) (fun f cdv A outer s H vs Q E hr h => ?_)
  · obtain ⟨_, _, _, rfl, _⟩ := h; rfl
  · obtain ⟨m, v, b, rfl, m3, hv, q⟩ := h
    refine ⟨_, (pss_cons (ps_if (PW.pt (pw_or (pt_not (pt_val (pe_callB call_isK (by rfl) T.m_isinstance (by decide +kernel) (pa_cons (pv 1) (pa_cons (pe_bltn (v := .ty "tuple") (by rfl) T.m_tuple (by decide +kernel) rfl) pa_nil))))) (pw_or1 (pt_cmpR op_ne (pe_callB call_len_seq (by rfl) T.m_len (by decide +kernel) (pa_cons (pv 1) pa_nil)) pe_int (nomark _)))))
    (pss_one (ps_ret pe_bl))
    pss_nil)
    (pss_one (ps_ret (pe_and (C8.pe_c (c_is_lettered T) hr (by decide) (by rfl) (pa_cons (pe_ix ix_tup (pv 1) pe_int (fun _ _ => rfl)) (pa_cons (C8.pe_gc (by rfl) T.k_MOST_PIECE_LETTERS) pa_nil))) (pe_one (C8.pe_c (c_is_form_for T) hr (by decide) (by rfl) (pa_cons (pv 0) (pa_cons (pe_ix ix_tup (pv 1) pe_int (fun _ _ => rfl)) pa_nil)))))))), ?_⟩
    cases hv with
    | non => exact ⟨_, rfl, .non, "tuple", _, rfl, .non, kit_tuple .non, _, rfl, iteT (q H (Same.refl _))⟩
    | lst h =>
      rename_i a xs
      have kn : Kn H (.ref a) := .lst h
      refine ⟨_, rfl, .ref a, "tuple", _, rfl, kn, kit_tuple kn, _, rfl, ?_⟩
      rw [show isTu H (.ref a) = false by simp only [isTu, h]]
      exact iteT (q H (Same.refl _))
    | long h1 h2 h3 h4 =>
      rename_i a fa z
      have kn : Kn H (.ref a) := .tup h1
      refine ⟨_, rfl, .ref a, "tuple", _, rfl, kn, kit_tuple kn, _, rfl, ?_⟩
      rw [isTu_tup h1]
      refine iteF ⟨_, rfl, a, _, rfl, .inr (.inl (.inl h1)), rfl, _, rfl, iteF ?_⟩
      refine ⟨_, rfl, a, _, 0, _, rfl, rfl, .inl (.inl h1), atI_nat (j := 0) rfl, z, 2000, rfl, h3, h4, _, rfl, ?_⟩
      rw [decide_eq_false (by omega)]
      exact iteF (q H (Same.refl _))
    | good h1 h2 h3 h4 =>
      rename_i a p
      obtain ⟨fa, e1, e2⟩ := h1
      have kn : Kn H (.ref a) := .tup e1
      refine ⟨_, rfl, .ref a, "tuple", _, rfl, kn, kit_tuple kn, _, rfl, ?_⟩
      rw [isTu_tup e1]
      refine iteF ⟨_, rfl, a, _, rfl, .inr (.inl (.inl e1)), rfl, _, rfl, iteF ?_⟩
      refine ⟨_, rfl, a, _, 0, _, rfl, rfl, .inl (.inl e1), atI_nat (j := 0) rfl, p.1, 2000, rfl, by omega, h4, _, rfl, ?_⟩
      rw [decide_eq_true (show p.1.length ≤ 2000 from h3)]
      refine iteT ⟨_, rfl, _, rfl, a, _, 1, _, rfl, rfl, .inl (.inl e1), atI_nat (j := 1) rfl, (m : Int), .ref fa, rfl, .tup e2, fun b xs eb hb => ?_, fun H1 s1 => ?_⟩
      · cases eb
        have := hb.symm.trans e2
        cases this
        exact ⟨small1000 (by rw [List.length_map, h2]; omega), kn_nats⟩
      · rw [formB_FT e2 h2]
        exact q H1 s1
def sp_measure : Sp := fun vs H Q _ => ∃ (l : Addr) (ps : List Pn) (m : Nat), vs = [.ref l] ∧ PL H l ps ∧ LenF m ps ∧ Ws 1000000 ps ∧ (∀ p ∈ ps, Bf p.2) ∧ ps.length ≤ 1000000 ∧ ∀ H', Same H H' → Q (.int (meas ps : Nat)) H'
theorem c_measure (T : Txt K mg CK C) : C8.Cal P w K mg base 2 "measure" sp_measure [] := by
  refine calF T.d_measure sc_measure (fun vs H Q E h => ?_) (fun f cdv A outer s H vs Q E hr h => ?_)
  · obtain ⟨_, _, _, rfl, _⟩ := h; rfl
  · obtain ⟨l, ps, m, rfl, ⟨vs, hl, hp⟩, lF, ws, bf, hlen, q⟩ := h
    have len := hp.len
    refine ⟨_, (pss_one (ps_ret (pe_callB (cr_sum rfl) (by rfl) T.m_sum (by decide +kernel) (pa_cons (pe_lc (own := [("word", 1), ("form", 2)]) (by rfl) sc_measure.nd (pi_list (pv 0)) (blkOk_by (N := ["pieces", "word", "form"]) (sc := C8.fnScope (topS 64)) (own := [("word", 1), ("form", 2)]) (by decide +kernel)) (fun _ _ _ _ _ => (pg_two (K := K) (i := 1) (j := 2) rfl rfl sc_measure.nd rfl rfl (Or.inl rfl) (Or.inl rfl))) (fun _ _ _ _ _ => pts_nil) (fun _ _ _ _ _ => (pe_op op_mulZ (pe_callB call_len_str (by rfl) T.m_len (by decide +kernel) (pa_cons (pv 1) pa_nil)) (pe_op op_addB (pe_ix ix_tupH (pv 2) pe_int (fun _ _ => rfl)) (C8.pe_c (c_is_open_form T) hr (by decide) (by rfl) (pa_cons (pv 2) pa_nil)))))) pa_nil)))), ?_⟩
    refine ⟨_, rfl, l, rfl, ⟨_, .inl (.inl hl)⟩, fun D hD => ?_⟩
    refine lc_list (K := K) (a := l) (xs := vs) (fun i H1 => Same H H1 ∧ H1 D = some (.lst ((ps.take i).map fun p => V.int ((measP p : Nat) : Int)))) ⟨sameNew hD, by rw [upd_same]; rfl⟩ (fun i H1 _ p => .inl (.inl (p.1 _ _ hl))) (fun i y H1 hi p => ?_) fun H1 p => ?_
    · obtain ⟨s1, hD1⟩ := p
      obtain ⟨a, p, rfl, hpi, pc⟩ := hp.get hi
      have mem := List.mem_of_getElem? hpi
      have hii := (List.getElem?_eq_some_iff.mp hpi).1
      have lp := lF p mem
      have wp := ws p mem
      obtain ⟨fa, e1, e2⟩ := pc.mono (tup_same s1)
      have bh : p.2.headD 0 < 2 ^ 900 := by
        cases e : p.2 with
        | nil => rw [e] at lp; simp at lp
        | cons x f => exact bf p mem x (by rw [e]; exact List.mem_cons_self)
      refine ⟨a, _, rfl, .inl (.inl e1), rfl, _, _, rfl, _, _, rfl, rfl, rfl, ?_⟩
      refine ⟨_, rfl, S p.1, rfl, len_line (by omega), _, rfl, fa, _, 0, _, rfl, rfl, e2, atI_nat (j := 0) (head_get lp), _, rfl, fa, p.2, rfl, e2, fun H2 s2 => ?_⟩
      refine ⟨_, _, rfl, rfl, p.1.length, p.2.headD 0 + (if isOpen p.2 then 1 else 0), congrArg (fun n : Nat => V.int n) (S_len _), congrArg V.int (by split <;> simp), by omega, by split <;> omega, _, s2 _ _ hD1, ?_, same_upd2 hD (s1.trans s2), ?_⟩
      · rw [List.length_map, List.length_take, sizeLine_eq]
        omega
      · rw [upd_same, List.take_succ, hpi]
        simp [measP]
    · obtain ⟨s1, hD1⟩ := p
      rw [len, List.take_length] at hD1
      refine ⟨D, ps.map fun p => ((measP p : Nat) : Int), rfl, .inl (.inl (by rw [hD1, List.map_map]; rfl)), ?_⟩
      rw [sum_meas]
      exact q _ s1
end
end K39

set_option Elab.async false
set_option linter.all false
set_option maxRecDepth 100000
set_option maxHeartbeats 4000000
namespace K39
open PySem PySem.Spec PyProof.Rows L2 CK SX NM
/-- a list of pieces, as the program lets it -/
structure GL (H : Hp) (m : Nat) (l : Addr) (ps : List Pn) : Prop where
  at_ : PL H l ps
  len : LenF m ps
  ws : Ws 2000 ps
  low : LowP ps
  bf : ∀ p ∈ ps, Bf p.2
  few : ps.length ≤ 5000
theorem GL.same {H H' : Hp} {m : Nat} {l : Addr} {ps : List Pn} (h : GL H m l ps) (s : Same H H') : GL H' m l ps := ⟨h.at_.same s, h.len, h.ws, h.low, h.bf, h.few⟩
inductive PLV (H : Hp) (m : Nat) : V → Bool → Prop
  | tup {a : Addr} {xs : List V} : H a = some (.tup xs) → PLV H m (.ref a) false
  | bad {l : Addr} {vs : List V} {bs : List Bool} : H l = some (.lst vs) → vs.length ≤ 5000 → bs.length = vs.length → (∀ (i : Nat) (v : V) (b : Bool), vs[i]? = some v → bs[i]? = some b → PV H m v b) → bs.all id = false → PLV H m (.ref l) false
  | good {l : Addr} {ps : List Pn} : GL H m l ps → PLV H m (.ref l) (decide (meas ps ≤ 2000))
theorem small1000000 {n : Nat} (h : n ≤ 1000000) : n < sizeLine := by rw [sizeLine_eq]; omega
theorem range_bools (bs : List Bool) : (List.range bs.length).map (fun i => V.bl (bs.getD i false)) = bs.map V.bl := by
  refine List.ext_getElem? fun i => ?_
  by_cases h : i < bs.length
  · rw [List.getElem?_map, List.getElem?_range h, List.getElem?_map, List.getElem?_eq_getElem h]
    show some (V.bl (bs.getD i false)) = some (V.bl bs[i])
    rw [List.getD_eq_getElem?_getD, List.getElem?_eq_getElem h]
    rfl
  · rw [List.getElem?_eq_none (by simp; omega), List.getElem?_eq_none (by simp; omega)]
section
variable {P : Program} {w : World} {K : PySem.W.Frag} {mg : Str → Option Value} {base : Heap} {CK C : Addr}
def sp_need_measure : Sp := fun vs H Q _ => ∃ (n : Nat), vs = [.int n] ∧ n ≤ 2000 ∧ Q .non H
theorem c_need_measure (T : Txt K mg CK C) : C8.Cal P w K mg base 1 "need_measure" sp_need_measure [] := by
  refine calF T.d_need_measure sc_need_measure (fun vs H Q E h => ?_) (fun f cdv A outer s H vs Q E hr h => ?_)
  · obtain ⟨_, rfl, _⟩ := h; rfl
  · obtain ⟨n, rfl, hn, q⟩ := h
    refine ⟨_, (pss_one (ps_if (pt_cmpR op_gt (pv 0) (C8.pe_gc (by rfl) T.k_MOST_MEASURE) (nomark _))
    (pss_one ps_never)
    pss_nil)), ?_⟩
    refine ⟨_, rfl, _, 2000, rfl, rfl, _, rfl, ?_⟩
    rw [decide_eq_false (by omega)]
    exact iteF q
def sp_need_pieces : Sp := fun vs H Q _ => ∃ (m : Nat) (l : Addr) (ps : List Pn), vs = [.int m, .ref l] ∧ m ≤ 3 ∧ GL H m l ps ∧ meas ps ≤ 2000 ∧ ∀ H', Same H H' → Q .non H'
theorem c_need_pieces (T : Txt K mg CK C) : C8.Cal P w K mg base 5 "need_pieces" sp_need_pieces [] := by
  refine calF T.d_need_pieces sc_need_pieces (fun vs H Q E h => ?_) (fun f cdv A outer s H vs Q E hr h => ?_)
  · obtain ⟨_, _, _, rfl, _⟩ := h; rfl
  · obtain ⟨m, l, ps, rfl, m3, g, hme, q⟩ := h
    obtain ⟨vs, h1, hp⟩ := id g.at_
    have lv := hp.len
    have hf := g.few
    have kn : Kn H (.ref l) := .lst h1
    refine ⟨_, (pss_cons (ps_expr (C8.pe_c (c_need_many T) hr (by decide) (by rfl) (pa_cons (pv 0) pa_nil)))
    (pss_cons (ps_if (PW.pt (pw_or (pt_not (pt_val (pe_callB call_isK (by rfl) T.m_isinstance (by decide +kernel) (pa_cons (pv 1) (pa_cons (pe_bltn (v := .ty "list") (by rfl) T.m_list (by decide +kernel) rfl) pa_nil))))) (pw_or1 (pt_cmpR op_gt (pe_callB call_len_seq (by rfl) T.m_len (by decide +kernel) (pa_cons (pv 1) pa_nil)) (C8.pe_gc (by rfl) T.k_MOST_PIECES) (nomark _)))))
    (pss_one ps_never)
    pss_nil)
    (pss_cons (ps_for PassesOwn.never rfl (pi_list (pv 1)) (pg_name (i := 2) sc_need_pieces.nd rfl (Or.inl rfl))
    (pss_one (ps_if (pt_not (pt_val (C8.pe_c (c_is_piece T) hr (by decide) (by rfl) (pa_cons (pv 0) (pa_cons (pv 2) pa_nil)))))
    (pss_one ps_never)
    pss_nil)))
    (pss_one (ps_expr (C8.pe_c (c_need_measure T) hr (by decide) (by rfl) (pa_cons (C8.pe_c (c_measure T) hr (by decide) (by rfl) (pa_cons (pv 1) pa_nil)) pa_nil))))))), ?_⟩
    refine ⟨_, rfl, m, rfl, by omega, by omega, ?_⟩
    refine ⟨_, rfl, .ref l, "list", _, rfl, kn, kit_list kn, _, rfl, ?_⟩
    rw [isLi_lst h1]
    refine iteF ⟨_, rfl, l, _, rfl, .inl (.inl (.inl h1)), _, 5000, rfl, rfl, _, rfl, ?_⟩
    rw [decide_eq_false (by omega)]
    refine iteF ?_
    refine ⟨_, rfl, l, rfl, ⟨_, .inl (.inl h1)⟩, for_list (K := K) (a := l) (xs := vs) (fun i σ H' => Same H H' ∧ ∃ y2, σ = [some (.int m), some (.ref l), y2]) ⟨Same.refl _, none, rfl⟩ (fun i σ H' _ p => .inl (.inl (p.1 _ _ h1))) (fun i y σ H' hi p => ?_) (fun σ H' p => ?_)⟩
    · obtain ⟨s1, y2, rfl⟩ := p
      obtain ⟨a, p, rfl, hpi, pc⟩ := hp.get hi
      have mem := List.mem_of_getElem? hpi
      exact ⟨_, rfl, _, rfl, m, _, true, rfl, m3, .good (pc.mono (tup_same s1)) (g.len p mem) (g.ws p mem) (g.low p mem), fun H2 s2 => ⟨_, rfl, iteF ⟨s1.trans s2, _, rfl⟩⟩⟩
    · obtain ⟨s1, y2, rfl⟩ := p
      exact ⟨_, rfl, l, ps, m, rfl, g.at_.same s1, g.len, fun p hp => by have := g.ws p hp; omega, g.bf, by omega, fun H2 s2 => ⟨meas ps, rfl, hme, q H2 (s1.trans s2)⟩⟩
def sp_normal : Sp := fun vs H Q _ => ∃ (m : Nat) (l : Addr) (ps : List Pn), vs = [.int m, .ref l] ∧ m ≤ 3 ∧ GL H m l ps ∧ meas ps ≤ 2000 ∧ ∀ r H', Same H H' → H r = none → PL H' r (normL ps) → Q (.ref r) H'
theorem c_normal (T : Txt K mg CK C) : C8.Cal P w K mg base 6 "normal" sp_normal [] := by
  refine calF T.d_normal sc_normal (fun vs H Q E h => ?_) (fun f cdv A outer s H vs Q E hr h => ?_)
  · obtain ⟨_, _, _, rfl, _⟩ := h; rfl
  · obtain ⟨m, l, ps, rfl, m3, g, hme, q⟩ := h
    have hf := g.few
    refine ⟨_, (pss_cons (ps_expr (C8.pe_c (c_need_pieces T) hr (by decide) (by rfl) (pa_cons (pv 0) (pa_cons (pv 1) pa_nil))))
    (pss_one (ps_ret (C8.pe_c (c_normal_pieces T) hr (by decide) (by rfl) (pa_cons (pv 1) pa_nil))))), ?_⟩
    exact ⟨_, rfl, _, rfl, m, l, ps, rfl, m3, g, hme, fun H1 s1 => ⟨_, rfl, l, ps, m, rfl, g.at_.same s1, g.len, m3, by omega, fun p hp => by have := g.ws p hp; omega, g.bf, by omega, fun r H2 s2 n2 p2 => q r H2 (s1.trans s2) (s1.free n2) p2⟩⟩
end
end K39

set_option Elab.async false
set_option linter.all false
set_option maxRecDepth 100000
set_option maxHeartbeats 4000000
namespace K39
open PySem PySem.Spec PyProof.Rows L2 CK SX NM
/-! ### open texts -/
/-- the attributes, as they are set -/
def OF (l : Addr) (m : Nat) : List (Str × V) := putF "_many" (V.int (m : Nat)) (putF "_pieces" (V.ref l) [])
theorem ne_pm : ¬ (("_pieces" : Str) = "_many") := by decide +kernel
theorem of_p (l : Addr) (m : Nat) : (OF l m).lookup ("_pieces" : Str) = some (V.ref l) := by
  unfold OF
  rw [lookup_putF, if_neg ne_pm, lookup_putF, if_pos rfl]
theorem of_m (l : Addr) (m : Nat) : (OF l m).lookup ("_many" : Str) = some (V.int (m : Nat)) := by
  unfold OF
  rw [lookup_putF, if_pos rfl]
theorem of_no (l : Addr) (m : Nat) {x : Str} (h1 : ¬ x = "_pieces") (h2 : ¬ x = "_many") : (OF l m).lookup x = none := by
  unfold OF
  rw [lookup_putF, if_neg h2, lookup_putF, if_neg h1]
  rfl
/-- an open text at p, its list of pieces at l -/
structure OTl (C : Addr) (H : Hp) (p l : Addr) (m : Nat) (ps : List Pn) : Prop where
  at_ : ∃ dx, H p = some (.ins C dx (OF l m))
  gl : GL H m l ps
def OT (C : Addr) (H : Hp) (p : Addr) (m : Nat) (ps : List Pn) : Prop := ∃ l, OTl C H p l m ps
theorem OTl.same {C : Addr} {H H' : Hp} {p l : Addr} {m : Nat} {ps : List Pn} (h : OTl C H p l m ps) (s : Same H H') : OTl C H' p l m ps := by
  obtain ⟨⟨dx, e⟩, g⟩ := h
  exact ⟨⟨dx, s _ _ e⟩, g.same s⟩
theorem OT.same {C : Addr} {H H' : Hp} {p : Addr} {m : Nat} {ps : List Pn} (h : OT C H p m ps) (s : Same H H') : OT C H' p m ps := by
  obtain ⟨l, h⟩ := h
  exact ⟨l, h.same s⟩
theorem GL.ins {H : Hp} {m : Nat} {l p C dx : Addr} {ps : List Pn} {fs gs : List (Str × V)} (h : GL H m l ps) (hp : H p = some (.ins C dx fs)) : GL (upd H p (.ins C dx gs)) m l ps := by
  obtain ⟨⟨vs, hl, hv⟩, a, b, c, d, e⟩ := h
  refine ⟨⟨vs, ?_, hv.mono fun a xs e => ?_⟩, a, b, c, d, e⟩
  · rw [upd_ne (fun z => by rw [z, hp] at hl; cases hl)]
    exact hl
  · rw [upd_ne (fun z => by rw [z, hp] at e; cases e)]
    exact e
/-- what is written at ones is not too long -/
def Wl (m : Nat) (ps : List Pn) : Prop := (wr (List.replicate m 1) ps).length < 2 ^ 900
theorem bf_normL {m : Nat} {ps : List Pn} (h : LenF m ps) (hw : Wl m ps) : ∀ p ∈ normL ps, Bf p.2 := fun p hp n hn => Nat.lt_of_le_of_lt (num_le h (Nat.le_refl _) hp hn) hw
theorem wl_normL {m : Nat} {ps : List Pn} (h : LenF m ps) (hw : Wl m ps) : Wl m (normL ps) := by
  unfold Wl
  rw [wr_normL h]
  exact hw
section
variable {P : Program} {w : World} {K : PySem.W.Frag} {mg : Str → Option Value} {base : Heap} {CK C : Addr}
def sp_init (C : Addr) : Sp := fun vs H Q _ => ∃ (p dx l : Addr) (m : Nat) (ps : List Pn), vs = [.ref p, .int m, .ref l] ∧ H p = some (.ins C dx []) ∧ m ≤ 3 ∧ GL H m l ps ∧ meas ps ≤ 2000 ∧ Wl m ps ∧
  ∀ r H', SameX p H H' → H r = none → OTl C H' p r m (normL ps) → Q .non H'
theorem n_OpenText (T : Txt K mg CK C) : C8.Mak P w K mg base 7 "OpenText" C (sp_init C) [] := by
  refine makF T.k_OpenText T.d_OpenText___init__ sc_OpenText___init__ (fun vs H Q E h => ?_) (fun f cdv A outer s H vs Q E hr h => ?_)
  · obtain ⟨_, _, _, _, _, rfl, _⟩ := h; rfl
  · obtain ⟨p, dx, l, m, ps, rfl, hp, m3, g, hme, hw, q⟩ := h
    have cl := T.k_OpenText.ins.cl
    refine ⟨_, (pss_cons (ps_fld (pv 0) (C8.pe_c (c_normal T) hr (by decide) (by rfl) (pa_cons (pv 1) (pa_cons (pv 2) pa_nil))) rfl)
    (pss_one (ps_fld (pv 0) (pv 1) rfl))), ?_⟩
    refine ⟨_, rfl, _, rfl, m, l, ps, rfl, m3, g, hme, fun r H1 s1 n1 pl => ?_⟩
    have hp1 := s1 _ _ hp
    have hp2 : (upd H1 p (.ins C dx (putF "_pieces" (V.ref r) []))) p = some (.ins C dx (putF "_pieces" (V.ref r) [])) := upd_same
    refine ⟨_, rfl, p, C, dx, _, rfl, hp1, cl, T.f_pieces, by show 0 < 1000; decide, ?_⟩
    refine ⟨_, rfl, _, rfl, p, C, dx, _, rfl, hp2, cl, T.f_many, by show 1 < 1000; decide, ?_⟩
    rw [upd_upd]
    have nm := nm_normL g.len
    have mle := meas_normL g.len
    have sm := nm.small (B := 2000) (by omega)
    have gr : GL H1 m r (normL ps) := ⟨pl, nm.lenF, sm.2, lowP_normL g.low, bf_normL g.len hw, by have := sm.1; omega⟩
    refine q r _ (fun b o hb e => ?_) n1 ⟨⟨dx, upd_same⟩, gr.ins hp1⟩
    rw [upd_ne hb]
    exact s1 _ _ e
def sp_eq (C : Addr) : Sp := fun vs H Q _ => ∃ (a b : Addr) (m m' : Nat) (ps qs : List Pn), vs = [.ref a, .ref b] ∧ OT C H a m ps ∧ OT C H b m' qs ∧ Q (.bl (decide (m = m') && decide (ps = qs))) H
theorem m_OpenText___eq__ (T : Txt K mg CK C) : C8.Met P w K mg base 1 C "__eq__" (sp_eq C) [] := by
  refine metF T.k_OpenText T.d_OpenText___eq__ sc_OpenText___eq__ (fun vs H Q E h => ?_) (fun f cdv A outer s H vs Q E hr h => ?_)
  · obtain ⟨_, _, _, _, _, _, rfl, _⟩ := h; rfl
  · obtain ⟨a, b, m, m', ps, qs, rfl, ⟨l, ⟨dx, ha⟩, ga⟩, ⟨l', ⟨dy, hb⟩, gb⟩, q⟩ := h
    have cl := T.k_OpenText.ins.cl
    refine ⟨_, (pss_one (ps_ret (pe_and (pe_callB (C8.call_isC T.k_OpenText.ins) (by rfl) T.m_isinstance (by decide +kernel) (pa_cons (pv 1) (pa_cons (C8.pe_gc (v := .ref C) (by rfl) ⟨_, T.k_OpenText.mgC, rfl⟩) pa_nil))) (pe_and (pe_cmpR op_eq (pe_fld (pv 0) rfl) (pe_fld (pv 1) rfl) (nomark _)) (pe_one (pe_cmpR (op_eqD hr.units) (pe_fld (pv 0) rfl) (pe_fld (pv 1) rfl) (nomark _))))))), ?_⟩
    refine ⟨_, rfl, b, dy, _, rfl, hb, _, rfl, iteT ?_⟩
    refine ⟨_, rfl, a, C, dx, _, _, rfl, ha, cl, T.f_many, of_m l m, _, rfl, b, C, dy, _, _, rfl, hb, cl, T.f_many, of_m l' m', rfl, _, rfl, ?_⟩
    by_cases e : m = m'
    · subst e
      rw [decide_eq_true (rfl : m = m), Bool.true_and] at q
      rw [decide_eq_true (rfl : V.int (m : Nat) = V.int (m : Nat))]
      refine iteT ⟨_, rfl, a, C, dx, _, _, rfl, ha, cl, T.f_pieces, of_p l m, _, rfl, b, C, dy, _, _, rfl, hb, cl, T.f_pieces, of_p l' m, .list (ps.map dP), .list (qs.map dP), dp_PL ga.at_, dp_PL gb.at_, shaped_dPs ga.low, shaped_dPs gb.low, ?_⟩
      rw [eqv_dPs]
      exact q
    · rw [decide_eq_false e, Bool.false_and] at q
      rw [decide_eq_false (fun z => e (by have := V.int.inj z; omega))]
      exact iteF q
def sp_many (C : Addr) : Sp := fun vs H Q _ => ∃ (a : Addr) (m : Nat) (ps : List Pn), vs = [.ref a] ∧ OT C H a m ps ∧ Q (.int (m : Nat)) H
theorem m_OpenText_many (T : Txt K mg CK C) : C8.Met P w K mg base 1 C "many" (sp_many C) [] := by
  refine metF T.k_OpenText T.d_OpenText_many sc_OpenText_many (fun vs H Q E h => ?_) (fun f cdv A outer s H vs Q E hr h => ?_)
  · obtain ⟨_, _, _, rfl, _⟩ := h; rfl
  · obtain ⟨a, m, ps, rfl, ⟨l, ⟨dx, ha⟩, ga⟩, q⟩ := h
    refine ⟨_, (pss_one (ps_ret (pe_fld (pv 0) rfl))), ?_⟩
    exact ⟨_, rfl, a, C, dx, _, _, rfl, ha, T.k_OpenText.ins.cl, T.f_many, of_m l m, q⟩
def sp_pieces (C : Addr) : Sp := fun vs H Q _ => ∃ (a : Addr) (m : Nat) (ps : List Pn), vs = [.ref a] ∧ OT C H a m ps ∧ ∀ L H', Same H H' → H L = none → GL H' m L ps → Q (.ref L) H'
theorem m_OpenText_pieces (T : Txt K mg CK C) : C8.Met P w K mg base 1 C "pieces" (sp_pieces C) [] := by
  refine metF T.k_OpenText T.d_OpenText_pieces sc_OpenText_pieces (fun vs H Q E h => ?_) (fun f cdv A outer s H vs Q E hr h => ?_)
  · obtain ⟨_, _, _, rfl, _⟩ := h; rfl
  · obtain ⟨a, m, ps, rfl, ⟨l, ⟨dx, ha⟩, ga⟩, q⟩ := h
    obtain ⟨us, hus, pus⟩ := id ga.at_
    refine ⟨_, (pss_one (ps_ret (pe_callTy call_list_of (by rfl) T.m_list (by decide +kernel) (pa_cons (pe_fld (pv 0) rfl) pa_nil)))), ?_⟩
    refine ⟨_, rfl, a, C, dx, _, _, rfl, ha, T.k_OpenText.ins.cl, T.f_pieces, of_p l m, l, us, rfl, .inl (.inl (.inl hus)), fun L nL => q L _ (sameNew nL) nL ?_⟩
    exact ⟨⟨us, upd_same, pus.same (sameNew nL)⟩, ga.len, ga.ws, ga.low, ga.bf, ga.few⟩
end
end K39

set_option Elab.async false
set_option linter.all false
set_option maxRecDepth 100000
set_option maxHeartbeats 2000000
namespace K39
open PySem PySem.Spec PyProof.Rows L2 CK SX NM
/-! ### lists of pieces and of forms in the heap -/
theorem mk_text {C : Addr} {Hc : Hp} {x dx l : Addr} {m : Nat} {ps : List Pn} {R : V → Hp → Prop} {E : XK} (nx : Hc x = none) (ndx : Hc dx = none) (nex : dx ≠ x) (gl : GL Hc m l ps) (m3 : m ≤ 3) (hme : meas ps ≤ 2000) (hw : Wl m ps)
    (q : ∀ r H', Same Hc H' → Hc r = none → OTl C H' x r m (normL ps) → R .non H') : sp_init C [.ref x, .int (m : Nat), .ref l] (upd (upd Hc dx (.own x)) x (.ins C dx [])) R E := by
  have s0 : Same Hc (upd (upd Hc dx (.own x)) x (.ins C dx [])) := fun b o e => by
    rw [upd_ne (ne_of_none e nx), upd_ne (ne_of_none e ndx)]
    exact e
  refine ⟨x, dx, l, m, ps, rfl, upd_same, m3, gl.same s0, hme, hw, fun r H1 s1 n1 ot => q r H1 (fun b o e => ?_) (s0.free n1) ot⟩
  exact s1 _ _ (fun z => by rw [z, nx] at e; cases e) (s0 _ _ e)
theorem OF_no (l : Addr) (m : Nat) : ((OF l m).lookup ("pieces" : Str) = none) ∧ ((OF l m).lookup ("many" : Str) = none) :=
  ⟨of_no l m (by decide +kernel) (by decide +kernel), of_no l m (by decide +kernel) (by decide +kernel)⟩
theorem GL.dpP {K : PySem.W.Frag} {H : Hp} {m : Nat} {l : Addr} {ps : List Pn} (h : GL H m l ps) : Dp K H (.ref l) (.list (ps.map dP)) := dp_PL h.at_
theorem Pcs.rev {H : Hp} {vs : List V} {ps : List Pn} (h : Pcs H vs ps) : Pcs H vs.reverse ps.reverse := by
  induction h with
  | nil => exact .nil
  | cons e _ ih =>
    rw [List.reverse_cons, List.reverse_cons]
    exact ih.app (.one e)
theorem Pcs.rep {H : Hp} {vs : List V} {ps : List Pn} (h : Pcs H vs ps) : ∀ t, Pcs H (List.replicate t vs).flatten (List.replicate t ps).flatten
  | 0 => .nil
  | t + 1 => by
    rw [List.replicate_succ, List.replicate_succ, List.flatten_cons, List.flatten_cons]
    exact h.app (h.rep t)
theorem rep_mem {α : Type} {ps : List α} : ∀ {t : Nat} {p : α}, p ∈ (List.replicate t ps).flatten → p ∈ ps
  | 0, _, h => by simp at h
  | t + 1, p, h => by
    rw [List.replicate_succ, List.flatten_cons] at h
    exact (List.mem_append.mp h).elim id rep_mem
theorem len_repP (t : Nat) (ps : List Pn) : (repP t ps).length = t * ps.length := by simp [repP]
theorem meas_repP (ps : List Pn) : ∀ t, meas (repP t ps) = meas ps * t
  | 0 => rfl
  | t + 1 => by
    have := meas_repP ps t
    unfold repP at this ⊢
    rw [List.replicate_succ, List.flatten_cons, meas_app, this, Nat.mul_succ, Nat.add_comm]
theorem meas_mirP (ps : List Pn) : meas (mirP ps) = meas ps := by
  unfold mirP meas
  rw [List.map_map, ← List.sum_reverse (ps.map measP), ← List.map_reverse]
  congr 1
  refine List.map_congr_left fun p _ => ?_
  show measP (p.1.reverse, p.2) = measP p
  unfold measP
  rw [List.length_reverse]
/-- forms in the heap -/
inductive Fs (H : Hp) : List V → List F → Prop
  | nil : Fs H [] []
  | cons {a : Addr} {vs : List V} {f : F} {fs : List F} : FT H a f → Fs H vs fs → Fs H (.ref a :: vs) (f :: fs)
theorem Fs.mono {H H' : Hp} {vs : List V} {fs : List F} (h : Fs H vs fs) (s : ∀ a xs, H a = some (.tup xs) → H' a = some (.tup xs)) : Fs H' vs fs := by
  induction h with
  | nil => exact .nil
  | cons e _ ih => exact .cons (s _ _ e) ih
theorem Fs.same {H H' : Hp} {vs : List V} {fs : List F} (h : Fs H vs fs) (s : Same H H') : Fs H' vs fs := h.mono (tup_same s)
theorem Fs.len {H : Hp} {vs : List V} {fs : List F} (h : Fs H vs fs) : vs.length = fs.length := by
  induction h with
  | nil => rfl
  | cons _ _ ih => simp [ih]
theorem Fs.get {H : Hp} {vs : List V} {fs : List F} (h : Fs H vs fs) {i : Nat} {v : V} (hi : vs[i]? = some v) : ∃ a f, v = .ref a ∧ fs[i]? = some f ∧ FT H a f := by
  induction h generalizing i with
  | nil => simp at hi
  | cons e _ ih =>
    cases i with
    | zero =>
      cases hi
      exact ⟨_, _, rfl, rfl, e⟩
    | succ i => exact ih hi
theorem Fs.app {H : Hp} {vs us : List V} {fs gs : List F} (h : Fs H vs fs) (g : Fs H us gs) : Fs H (vs ++ us) (fs ++ gs) := by
  induction h with
  | nil => exact g
  | cons e _ ih => exact .cons e ih
theorem Fs.set {H : Hp} {vs : List V} {fs : List F} (h : Fs H vs fs) {i : Nat} {a : Addr} {f : F} (e : FT H a f) : Fs H (vs.set i (.ref a)) (fs.set i f) := by
  induction h generalizing i with
  | nil => exact .nil
  | cons e' h ih =>
    cases i with
    | zero => exact .cons e h
    | succ i => exact .cons e' ih
def FL (H : Hp) (l : Addr) (fs : List F) : Prop := ∃ vs, H l = some (.lst vs) ∧ Fs H vs fs
theorem FL.same {H H' : Hp} {l : Addr} {fs : List F} (h : FL H l fs) (s : Same H H') : FL H' l fs := by
  obtain ⟨vs, e, p⟩ := h
  exact ⟨vs, s _ _ e, p.same s⟩
/-! ### forms put into a form -/
def insF (m : Nat) (f : F) (gs : List F) : F := (f.tail.zip gs).foldl (fun acc p => addF acc (timesF p.1 p.2)) (f.headD 0 :: List.replicate m 0)
theorem len_timesF (k : Nat) (f : F) : (timesF k f).length = f.length := by simp [timesF]
theorem len_ins {m : Nat} : ∀ (zs : List (Nat × F)) (acc : F), acc.length = m + 1 → (∀ z ∈ zs, z.2.length = m + 1) → (zs.foldl (fun acc p => addF acc (timesF p.1 p.2)) acc).length = m + 1
  | [], acc, h, _ => h
  | z :: zs, acc, h, hz => by
    have hz0 := hz z List.mem_cons_self
    refine len_ins zs _ ?_ fun y hy => hz y (List.mem_cons_of_mem _ hy)
    have e : acc.length = (timesF z.1 z.2).length := by rw [len_timesF, h, hz0]
    rw [len_add e, len_timesF, hz0]
theorem val_ins {m : Nat} (pt : List Nat) : ∀ (zs : List (Nat × F)) (acc : F), acc.length = m + 1 → (∀ z ∈ zs, z.2.length = m + 1) →
    valF (zs.foldl (fun acc p => addF acc (timesF p.1 p.2)) acc) pt = valF acc pt + (zs.map fun z => z.1 * valF z.2 pt).sum
  | [], acc, _, _ => by simp
  | z :: zs, acc, h, hz => by
    have hz0 := hz z List.mem_cons_self
    have e : acc.length = (timesF z.1 z.2).length := by rw [len_timesF, h, hz0]
    rw [List.foldl_cons, val_ins pt zs _ (by rw [len_add e, len_timesF, hz0]) fun y hy => hz y (List.mem_cons_of_mem _ hy), val_add pt e, val_times, List.map_cons, List.sum_cons]
    omega
theorem dot_zip (pt : List Nat) : ∀ (f : List Nat) (gs : List F), dot f (gs.map fun g => valF g pt) = ((f.zip gs).map fun z => z.1 * valF z.2 pt).sum
  | [], _ => by simp [dot]
  | _ :: _, [] => by simp [dot]
  | a :: f, g :: gs => by
    rw [List.map_cons, dot, dot_zip pt f gs, List.zip_cons_cons, List.map_cons, List.sum_cons]
theorem zip_mem {m : Nat} {f : List Nat} {gs : List F} (h : ∀ g ∈ gs, g.length = m + 1) : ∀ z ∈ f.zip gs, z.2.length = m + 1 := fun z hz => h _ (List.of_mem_zip hz).2
/-- at a point: the form at the values of the forms -/
theorem val_insF {m : Nat} {f : F} {gs : List F} (h : ∀ g ∈ gs, g.length = m + 1) (pt : List Nat) : valF (insF m f gs) pt = valF f (gs.map fun g => valF g pt) := by
  unfold insF
  rw [val_ins pt _ _ (by simp) (zip_mem h)]
  have e : valF (f.headD 0 :: List.replicate m 0) pt = f.headD 0 := by
    unfold valF
    show f.headD 0 + dot (List.replicate m 0) pt = _
    rw [dot_zero, Nat.add_zero]
  rw [e, ← dot_zip]
  rfl
theorem len_insF {m : Nat} {f : F} {gs : List F} (h : ∀ g ∈ gs, g.length = m + 1) : (insF m f gs).length = m + 1 := len_ins _ _ (by simp) (zip_mem h)
def repl (m : Nat) (gs : List F) (ps : List Pn) : List Pn := ps.map fun p => (p.1, insF m p.2 gs)
theorem wr_repl {m : Nat} {gs : List F} (h : ∀ g ∈ gs, g.length = m + 1) (pt : List Nat) : ∀ ps : List Pn, wr pt (repl m gs ps) = wr (gs.map fun g => valF g pt) ps
  | [] => rfl
  | p :: r => by
    have := wr_repl h pt r
    unfold repl at this ⊢
    rw [List.map_cons, wr, wr, this]
    congr 1
    unfold wrt
    rw [val_insF h]
end K39

set_option Elab.async false
set_option linter.all false
set_option maxRecDepth 100000
set_option maxHeartbeats 4000000
namespace K39
open PySem PySem.Spec PyProof.Rows L2 CK SX NM
theorem ws_mega {qs : List Pn} (h : Ws 2000 qs) : Ws 1000000 qs := fun p hp => by have := h p hp; omega
theorem GL.app {H : Hp} {m : Nat} {l l' L : Addr} {ps qs : List Pn} {us vs : List V} (g : GL H m l ps) (g' : GL H m l' qs) (hp : Pcs H us ps) (hq : Pcs H vs qs) (e : H L = some (.lst (us ++ vs))) (few : ps.length + qs.length ≤ 5000) : GL H m L (ps ++ qs) := by
  refine ⟨⟨_, e, hp.app hq⟩, fun p h => ?_, fun p h => ?_, fun p h => ?_, fun p h => ?_, by rw [List.length_append]; exact few⟩
  · exact (List.mem_append.mp h).elim (g.len p) (g'.len p)
  · exact (List.mem_append.mp h).elim (g.ws p) (g'.ws p)
  · exact (List.mem_append.mp h).elim (g.low p) (g'.low p)
  · exact (List.mem_append.mp h).elim (g.bf p) (g'.bf p)
section
variable {P : Program} {w : World} {K : PySem.W.Frag} {mg : Str → Option Value} {base : Heap} {CK C : Addr}
def sp_need_text (C : Addr) : Sp := fun vs H Q _ => ∃ (a : Addr) (m : Nat) (ps : List Pn), vs = [.ref a] ∧ OT C H a m ps ∧ Q .non H
theorem c_need_text (T : Txt K mg CK C) : C8.Cal P w K mg base 1 "need_text" (sp_need_text C) [] := by
  refine calF T.d_need_text sc_need_text (fun vs H Q E h => ?_) (fun f cdv A outer s H vs Q E hr h => ?_)
  · obtain ⟨_, _, _, rfl, _⟩ := h; rfl
  · obtain ⟨a, m, ps, rfl, ⟨l, ⟨dx, ha⟩, ga⟩, q⟩ := h
    refine ⟨_, (pss_one (ps_if (pt_not (pt_val (pe_callB (C8.call_isC T.k_OpenText.ins) (by rfl) T.m_isinstance (by decide +kernel) (pa_cons (pv 0) (pa_cons (C8.pe_gc (v := .ref C) (by rfl) ⟨_, T.k_OpenText.mgC, rfl⟩) pa_nil)))))
    (pss_one ps_never)
    pss_nil)), ?_⟩
    exact ⟨_, rfl, a, dx, _, rfl, ha, _, rfl, iteF q⟩
def sp_text_of (C : Addr) : Sp := fun vs H Q _ => ∃ (l : Addr) (m : Nat) (ps : List Pn), vs = [.int m, .ref l] ∧ m ≤ 3 ∧ GL H m l ps ∧ meas ps ≤ 2000 ∧ Wl m ps ∧ ∀ x H', Same H H' → OT C H' x m (normL ps) → Q (.ref x) H'
theorem c_text_of (T : Txt K mg CK C) : C8.Cal P w K mg base 9 "text_of" (sp_text_of C) [] := by
  refine calF T.d_text_of sc_text_of (fun vs H Q E h => ?_) (fun f cdv A outer s H vs Q E hr h => ?_)
  · obtain ⟨_, _, _, rfl, _⟩ := h; rfl
  · obtain ⟨l, m, ps, rfl, m3, g, hme, hw, q⟩ := h
    have few := g.few
    refine ⟨_, (pss_cons (ps_expr (C8.pe_c (c_need_measure T) hr (by decide) (by rfl) (pa_cons (C8.pe_c (c_measure T) hr (by decide) (by rfl) (pa_cons (pv 1) pa_nil)) pa_nil)))
    (pss_one (ps_ret (C8.pe_mk (n_OpenText T) hr (by decide) (by rfl) (pa_cons (pv 0) (pa_cons (pv 1) pa_nil)))))), ?_⟩
    refine ⟨_, rfl, l, ps, m, rfl, g.at_, g.len, ws_mega g.ws, g.bf, by omega, fun H1 s1 => ⟨meas ps, rfl, hme, ?_⟩⟩
    refine ⟨_, rfl, _, rfl, fun x dx nx ndx nex => mk_text nx ndx nex (g.same s1) m3 hme hw fun r H2 s2 nr ot => ⟨rfl, q x H2 (s1.trans s2) ⟨r, ot⟩⟩⟩
end
end K39

set_option Elab.async false
set_option linter.all false
set_option maxRecDepth 100000
set_option maxHeartbeats 4000000
namespace K39
open PySem PySem.Spec PyProof.Rows L2 CK SX NM
theorem mem_mirP {ps : List Pn} {p : Pn} (h : p ∈ mirP ps) : ∃ q ∈ ps, p = (q.1.reverse, q.2) := by
  obtain ⟨q, hq, e⟩ := List.mem_map.mp h
  exact ⟨q, List.mem_reverse.mp hq, e.symm⟩
theorem GL.mir {H : Hp} {m : Nat} {l L : Addr} {ps : List Pn} (g : GL H m l ps) {H' : Hp} (h : PL H' L (mirP ps)) : GL H' m L (mirP ps) := by
  refine ⟨h, fun p hp => ?_, fun p hp => ?_, fun p hp => ?_, fun p hp => ?_, by unfold mirP; rw [List.length_map, List.length_reverse]; exact g.few⟩
  · obtain ⟨q, hq, rfl⟩ := mem_mirP hp
    exact g.len q hq
  · obtain ⟨q, hq, rfl⟩ := mem_mirP hp
    show q.1.reverse.length ≤ 2000
    rw [List.length_reverse]
    exact g.ws q hq
  · obtain ⟨q, hq, rfl⟩ := mem_mirP hp
    exact fun c hc => g.low q hq c (List.mem_reverse.mp hc)
  · obtain ⟨q, hq, rfl⟩ := mem_mirP hp
    exact g.bf q hq
def unitF (n m : Nat) : F := 0 :: (List.replicate n 0 ++ 1 :: List.replicate (m - n - 1) 0)
theorem len_unitF {n m : Nat} (h : n < m) : (unitF n m).length = m + 1 := by
  unfold unitF
  simp
  omega
theorem dot_app : ∀ (a b pt qt : List Nat), a.length = pt.length → dot (a ++ b) (pt ++ qt) = dot a pt + dot b qt
  | [], b, [], qt, _ => by simp [dot]
  | x :: a, b, y :: pt, qt, h => by
    rw [List.cons_append, List.cons_append, dot, dot, dot_app a b pt qt (by simpa using h)]
    omega
  | [], _, _ :: _, _, h => by simp at h
  | _ :: _, _, [], _, h => by simp at h
theorem val_unit {n m y : Nat} {pt : List Nat} (c : Nat) (hp : pt.length = m) (hy : pt[n]? = some y) : valF (c :: (unitF n m).tail) pt = c + y := by
  obtain ⟨hn, e⟩ := List.getElem?_eq_some_iff.mp hy
  have sp : pt = pt.take n ++ y :: pt.drop (n + 1) := by
    conv => lhs; rw [← List.take_append_drop n pt, ← List.getElem_cons_drop hn, e]
  unfold valF unitF
  show c + dot (List.replicate n 0 ++ 1 :: List.replicate (m - n - 1) 0) pt = c + y
  conv => lhs; rw [sp]
  rw [dot_app _ _ _ _ (by rw [List.length_replicate, List.length_take]; omega), dot_zero, dot, dot_zero]
  omega
def unitsF (m : Nat) : List F := (List.range m).map fun n => unitF n m
def laterG (at_ by_ m : Nat) : List F := (unitsF m).set at_ (by_ :: (unitF at_ m).tail)
theorem len_laterG {at_ by_ m : Nat} : ∀ g ∈ laterG at_ by_ m, g.length = m + 1 := fun g hg => by
  rcases List.mem_or_eq_of_mem_set hg with z | z
  · obtain ⟨n, hn, rfl⟩ := List.mem_map.mp z
    exact len_unitF (List.mem_range.mp hn)
  · rw [z]
    by_cases h : at_ < m
    · have := len_unitF h
      rw [List.length_cons, List.length_tail, this]
      rfl
    · have e : (unitsF m).set at_ (by_ :: (unitF at_ m).tail) = unitsF m := List.set_eq_of_length_le (by simp [unitsF]; omega)
      unfold laterG at hg
      rw [e, z] at hg
      obtain ⟨n, hn, e2⟩ := List.mem_map.mp hg
      rw [← e2]
      exact len_unitF (List.mem_range.mp hn)
/-- what the forms of `later` are at a point -/
theorem val_laterG {at_ by_ m : Nat} {pt : List Nat} (hp : pt.length = m) (ha : at_ < m) : (laterG at_ by_ m).map (fun g => valF g pt) = pt.set at_ (pt.getD at_ 0 + by_) := by
  refine List.ext_getElem? fun i => ?_
  unfold laterG unitsF
  by_cases hi : i < m
  · have hy : pt[i]? = some pt[i] := List.getElem?_eq_getElem (by omega)
    rw [List.getElem?_map]
    by_cases e : at_ = i
    · subst e
      rw [List.getElem?_set_self (by simp; omega), List.getElem?_set_self (by omega)]
      show some (valF (by_ :: (unitF at_ m).tail) pt) = _
      rw [val_unit by_ hp hy, List.getD_eq_getElem?_getD, hy]
      show some (by_ + pt[at_]) = some (pt[at_] + by_)
      rw [Nat.add_comm]
    · rw [List.getElem?_set_ne e, List.getElem?_set_ne e, List.getElem?_map, List.getElem?_range hi, hy]
      show some (valF (unitF i m) pt) = _
      have : unitF i m = 0 :: (unitF i m).tail := rfl
      rw [this, val_unit 0 hp hy, Nat.zero_add]
  · rw [List.getElem?_eq_none (by simp; omega), List.getElem?_eq_none (by simp; omega)]
section
variable {P : Program} {w : World} {K : PySem.W.Frag} {mg : Str → Option Value} {base : Heap} {CK C : Addr}
def sp_plain_form : Sp := fun vs H Q _ => ∃ (m k : Nat), vs = [.int k, .int m] ∧ m ≤ 3 ∧ ∀ p H', Same H H' → FT H' p (k :: List.replicate m 0) → Q (.ref p) H'
theorem c_plain_form (T : Txt K mg CK C) : C8.Cal P w K mg base 1 "plain_form" sp_plain_form [] := by
  refine calF T.d_plain_form sc_plain_form (fun vs H Q E h => ?_) (fun f cdv A outer s H vs Q E hr h => ?_)
  · obtain ⟨_, _, rfl, _⟩ := h; rfl
  · obtain ⟨m, k, rfl, hm, q⟩ := h
    refine ⟨_, (pss_one (ps_ret (pe_op op_catS (pe_tup (pa_cons (pv 0) pa_nil)) (pe_op op_repOne (pe_tup (pa_cons pe_int pa_nil)) (pv 1))))), ?_⟩
    refine ⟨_, rfl, by show 1 ≤ sizeLine; decide, fun t1 n1 => ⟨by decide, fun t2 n2 => ⟨_, rfl, t2, _, _, rfl, rfl, upd_same, by omega, by omega, fun p H' s hp => ?_⟩⟩⟩
    have e1 : H' t1 = some (.tup [.int k]) := s _ _ (by rw [upd_ne (ne_of_none upd_same n2)]; exact upd_same)
    refine ⟨t1, p, _, _, rfl, rfl, e1, hp, by simp; omega, fun p2 H2 s2 h2 => q p2 H2 (((sameNew n1).trans (sameNew n2)).trans (s.trans s2)) ?_⟩
    unfold FT
    rw [h2]
    simp
def sp_inserted : Sp := fun vs H Q _ => ∃ (fa l : Addr) (m : Nat) (f : F) (gs : List F), vs = [.ref fa, .int m, .ref l] ∧ FT H fa f ∧ FL H l gs ∧ m ≤ 3 ∧ f.length = gs.length + 1 ∧ gs.length ≤ 3 ∧ (∀ g ∈ gs, g.length = m + 1) ∧ Bf f ∧ (∀ g ∈ gs, Bf g) ∧ ∀ p H', Same H H' → FT H' p (insF m f gs) → Q (.ref p) H'
theorem c_form_inserted (T : Txt K mg CK C) : C8.Cal P w K mg base 2 "form_inserted" sp_inserted [] := by
  refine calF T.d_form_inserted sc_form_inserted (fun vs H Q E h => ?_) (fun f cdv A outer s H vs Q E hr h => ?_)
  · obtain ⟨_, _, _, _, _, rfl, _⟩ := h; rfl
  · obtain ⟨fa, l, m, f, gs, rfl, hf, ⟨us, hl, hg⟩, m3, lf, lg3, lg, bf, bg, q⟩ := h
    have lu := hg.len
    refine ⟨_, (pss_cons (ps_set (i := 3) sc_form_inserted.nd rfl (Or.inl rfl) (C8.pe_c (c_plain_form T) hr (by decide) (by rfl) (pa_cons (pe_ix ix_tup (pv 0) pe_int (fun _ _ => rfl)) (pa_cons (pv 1) pa_nil))))
    (pss_cons (ps_for PassesOwn.never rfl (pi_zipB (K := K) rfl (by rfl) T.m_zip (pa_cons (pe_slice sl_drop (pv 0) (po_some pe_int) po_none) (pa_cons (pv 2) pa_nil))) (pg_two (K := K) (i := 4) (j := 5) rfl rfl sc_form_inserted.nd rfl rfl (Or.inl rfl) (Or.inl rfl))
    (pss_one (ps_set (i := 3) sc_form_inserted.nd rfl (Or.inl rfl) (C8.pe_c (c_form_sum T) hr (by decide) (by rfl) (pa_cons (pv 3) (pa_cons (C8.pe_c (c_form_times T) hr (by decide) (by rfl) (pa_cons (pv 4) (pa_cons (pv 5) pa_nil))) pa_nil))))))
    (pss_one (ps_ret (pv 3))))), ?_⟩
    obtain ⟨c, t, rfl⟩ : ∃ c t, f = c :: t := by
      cases f with
      | nil => simp at lf
      | cons c t => exact ⟨c, t, rfl⟩
    have lt : t.length = gs.length := by simpa using lf
    refine ⟨_, rfl, fa, _, 0, _, rfl, rfl, .inl (.inl hf), atI_nat (j := 0) rfl, _, rfl, m, c, rfl, m3, fun p1 H1 s1 h1 => ?_⟩
    refine ⟨_, rfl, 1, rfl, fa, _, 1, rfl, rfl, rfl, s1 _ _ hf, fun p2 H2 s2 h2 => ?_⟩
    have h2' : H2 p2 = some (.tup (natsV t)) := h2
    have s12 := s1.trans s2
    refine ⟨_, rfl, .T, .L, p2, l, natsV t, us, rfl, .inl (.inl h2'), .inl (.inl (s12 _ _ hl)), ?_⟩
    refine for_it (walkB (K := K) (k := .T) (k' := .L) (a := p2) (b := l) (xs := natsV t) (ys := us) (by rw [natsV_len]; omega)) (fun i σ H' => Same H2 H' ∧ ∃ (p : Addr) (y4 y5 : Option V), σ = [some (.ref fa), some (.int (m : Nat)), some (.ref l), some (.ref p), y4, y5] ∧ FT H' p (((t.zip gs).take i).foldl (fun acc p => addF acc (timesF p.1 p.2)) (c :: List.replicate m 0)))
      ⟨Same.refl _, p1, none, none, rfl, h1.same s2⟩ (fun i σ H' _ p => ⟨.inl (.inl (p.1 _ _ h2')), .inl (.inl (p.1 _ _ (s12 _ _ hl)))⟩) (fun i x σ H3 H4 hi pI yy => ?_) (fun σ H3 pI => ?_)
    · obtain ⟨s3, p, y4, y5, rfl, hp⟩ := pI
      obtain ⟨tt, x, y, rfl, ht, rfl, hx, hy⟩ := yy
      have hx : (natsV t)[i]? = some x := hx
      have hy : us[i]? = some y := hy
      obtain ⟨k, mk, hk, rfl⟩ := get_nat hx
      obtain ⟨b, g, rfl, hgi, hgb⟩ := hg.get hy
      have memg := List.mem_of_getElem? hgi
      have st := sameNew (o := .tup [.int (k : Nat), .ref b]) ht
      have s3t := s3.trans st
      refine ⟨tt, [.int (k : Nat), .ref b], rfl, .inl (.inl upd_same), rfl, .int (k : Nat), [.ref b], rfl, .ref b, [], rfl, rfl, ?_⟩
      have hz : (t.zip gs)[i]? = some (k, g) := by
        rw [List.getElem?_zip_eq_some]
        exact ⟨hk, hgi⟩
      have e : ((t.zip gs).take (i + 1)).foldl (fun acc p => addF acc (timesF p.1 p.2)) (c :: List.replicate m 0) = addF (((t.zip gs).take i).foldl (fun acc p => addF acc (timesF p.1 p.2)) (c :: List.replicate m 0)) (timesF k g) := by
        rw [List.take_succ, hz, List.foldl_append]
        rfl
      have la : (((t.zip gs).take i).foldl (fun acc p => addF acc (timesF p.1 p.2)) (c :: List.replicate m 0)).length = m + 1 := len_ins _ _ (by simp) fun z hz => zip_mem lg z (List.mem_of_mem_take hz)
      rw [e]
      generalize ((t.zip gs).take i).foldl (fun acc p => addF acc (timesF p.1 p.2)) (c :: List.replicate m 0) = acc at hp la
      have lgm := lg g memg
      refine ⟨_, rfl, _, rfl, _, rfl, k, b, g, rfl, ((hgb.same s12).same s3t), by omega, bf k (List.mem_cons_of_mem _ mk), bg g memg, fun p4 H4 s4 h4 => ?_⟩
      exact ⟨p, p4, acc, timesF k g, rfl, (hp.same st).same s4, h4, by omega, by rw [len_timesF]; omega, fun p5 H5 s5 h5 => ⟨(s3t.trans s4).trans s5, p5, _, _, rfl, h5⟩⟩
    · obtain ⟨s3, p, y4, y5, rfl, hp⟩ := pI
      refine ⟨_, rfl, q p _ (s12.trans s3) ?_⟩
      rw [natsV_len, lt] at hp
      have : (t.zip gs).take gs.length = t.zip gs := List.take_of_length_le (by rw [List.length_zip]; omega)
      rw [this] at hp
      exact hp
def sp_is_forms : Sp := fun vs H Q _ => ∃ (l : Addr) (k m : Nat) (gs : List F), vs = [.ref l, .int k, .int m] ∧ FL H l gs ∧ gs.length = k ∧ k ≤ 3 ∧ m ≤ 3 ∧ (∀ g ∈ gs, g.length = m + 1) ∧ ∀ H', Same H H' → Q (.bl true) H'
theorem c_is_forms (T : Txt K mg CK C) : C8.Cal P w K mg base 4 "is_forms" sp_is_forms [] := by
  refine calF T.d_is_forms sc_is_forms (fun vs H Q E h => ?_) (fun f cdv A outer s H vs Q E hr h => ?_)
  · obtain ⟨_, _, _, _, rfl, _⟩ := h; rfl
  · obtain ⟨l, k, m, gs, rfl, ⟨us, hl, hg⟩, lk, k3, m3, lg, q⟩ := h
    have lu := hg.len
    have kn : Kn H (.ref l) := .lst hl
    refine ⟨_, (pss_cons (ps_if (PW.pt (pw_or (pt_not (pt_val (pe_callB call_isK (by rfl) T.m_isinstance (by decide +kernel) (pa_cons (pv 0) (pa_cons (pe_bltn (v := .ty "list") (by rfl) T.m_list (by decide +kernel) rfl) pa_nil))))) (pw_or1 (pt_cmpR op_ne (pe_callB call_len_seq (by rfl) T.m_len (by decide +kernel) (pa_cons (pv 0) pa_nil)) (pv 1) (nomark _)))))
    (pss_one (ps_ret pe_bl))
    pss_nil)
    (pss_one (ps_ret (pe_callB (cr_all rfl) (by rfl) T.m_all (by decide +kernel) (pa_cons (pe_lc (own := [("form", 3)]) (by rfl) sc_is_forms.nd (pi_list (pv 0)) (blkOk_by (N := ["value", "size", "many", "form"]) (sc := C8.fnScope (topS 24)) (own := [("form", 3)]) (by decide +kernel)) (fun _ _ _ _ _ => (pg_name (i := 3) sc_is_forms.nd rfl (Or.inl rfl))) (fun _ _ _ _ _ => pts_nil) (fun _ _ _ _ _ => (C8.pe_c (c_is_form_for T) hr (by decide) (by rfl) (pa_cons (pv 2) (pa_cons (pv 3) pa_nil))))) pa_nil))))), ?_⟩
    refine ⟨_, rfl, .ref l, "list", _, rfl, kn, kit_list kn, _, rfl, ?_⟩
    rw [isLi_lst hl]
    refine iteF ⟨_, rfl, l, _, rfl, .inl (.inl (.inl hl)), _, rfl, rfl, _, rfl, iteNS (by rw [lu, lk]) ?_⟩
    refine ⟨_, rfl, l, rfl, ⟨_, .inl (.inl hl)⟩, fun D hD => ?_⟩
    refine lcL_mapI (K := K) (a := l) (xs := us) (fun _ => V.bl true) hl (small1000000 (by omega)) (fun i x H' R hx s' q' => ?_) hD fun H' s' hL => ?_
    · obtain ⟨b, g, rfl, hgi, hgb⟩ := hg.get hx
      have memg := List.mem_of_getElem? hgi
      have hgb' := hgb.same s'
      refine ⟨rfl, _, rfl, _, rfl, (m : Int), .ref b, rfl, .tup hgb', fun b' xs eb hb => ?_, fun H1 s1 => ?_⟩
      · cases eb
        have := hb.symm.trans hgb'
        cases this
        exact ⟨small1000 (by rw [List.length_map, lg g memg]; omega), kn_nats⟩
      · rw [formB_FT hgb' (lg g memg)]
        exact q' H1 s1
    · refine ⟨D, (List.range us.length).map fun _ => true, rfl, .inl (.inl (by rw [hL, List.map_map]; rfl)), ?_⟩
      rw [show ((List.range us.length).map fun _ => true).all id = true by simp]
      exact q H' s'
end
end K39

set_option Elab.async false
set_option linter.all false
set_option maxRecDepth 100000
set_option maxHeartbeats 4000000
namespace K39
open PySem PySem.Spec PyProof.Rows L2 CK SX NM
theorem mem_repl {m : Nat} {gs : List F} {ps : List Pn} {p : Pn} (h : p ∈ K39.repl m gs ps) : ∃ q ∈ ps, p = (q.1, insF m q.2 gs) := by
  obtain ⟨q, hq, e⟩ := List.mem_map.mp h
  exact ⟨q, hq, e.symm⟩
theorem GL.repl {H H' : Hp} {k m : Nat} {l L : Addr} {ps : List Pn} {gs : List F} (g : GL H k l ps) (h : PL H' L (K39.repl m gs ps)) (lg : ∀ g ∈ gs, g.length = m + 1) (bf : ∀ p ∈ ps, Bf (insF m p.2 gs)) : GL H' m L (K39.repl m gs ps) := by
  refine ⟨h, fun p hp => ?_, fun p hp => ?_, fun p hp => ?_, fun p hp => ?_, by unfold K39.repl; rw [List.length_map]; exact g.few⟩
  · obtain ⟨q, hq, rfl⟩ := mem_repl hp
    exact len_insF lg
  · obtain ⟨q, hq, rfl⟩ := mem_repl hp
    exact g.ws q hq
  · obtain ⟨q, hq, rfl⟩ := mem_repl hp
    exact g.low q hq
  · obtain ⟨q, hq, rfl⟩ := mem_repl hp
    exact bf q hq
section
variable {P : Program} {w : World} {K : PySem.W.Frag} {mg : Str → Option Value} {base : Heap} {CK C : Addr}
def sp_replaced (C : Addr) : Sp := fun vs H Q _ => ∃ (a l : Addr) (k m : Nat) (ps : List Pn) (gs : List F), vs = [.ref a, .int m, .ref l] ∧ OT C H a k ps ∧ k ≤ 3 ∧ m ≤ 3 ∧ FL H l gs ∧ gs.length = k ∧ (∀ g ∈ gs, g.length = m + 1) ∧ (∀ g ∈ gs, Bf g) ∧
  (∀ p ∈ ps, Bf (insF m p.2 gs)) ∧ meas (K39.repl m gs ps) ≤ 2000 ∧ Wl m (K39.repl m gs ps) ∧ ∀ x H', Same H H' → OT C H' x m (normL (K39.repl m gs ps)) → Q (.ref x) H'
theorem c_replaced (T : Txt K mg CK C) : C8.Cal P w K mg base 10 "replaced" (sp_replaced C) [] := by
  refine calF T.d_replaced sc_replaced (fun vs H Q E h => ?_) (fun f cdv A outer s H vs Q E hr h => ?_)
  · obtain ⟨_, _, _, _, _, _, rfl, _⟩ := h; rfl
  · obtain ⟨a, l, k, m, ps, gs, rfl, oa, k3, m3, hl, lk, lg, bg, bi, hme, hw, q⟩ := h
    obtain ⟨l0, ⟨dx, ha⟩, ga⟩ := id oa
    refine ⟨_, (pss_cons (ps_expr (C8.pe_c (c_need_text T) hr (by decide) (by rfl) (pa_cons (pv 0) pa_nil)))
    (pss_cons (ps_expr (C8.pe_c (c_need_many T) hr (by decide) (by rfl) (pa_cons (pv 1) pa_nil)))
    (pss_cons (ps_if (pt_not (pt_val (C8.pe_c (c_is_forms T) hr (by decide) (by rfl) (pa_cons (pv 2) (pa_cons (C8.pe_mt0 (m_OpenText_many T) hr (by decide) (pv 0)) (pa_cons (pv 1) pa_nil))))))
    (pss_one ps_never)
    pss_nil)
    (pss_one (ps_ret (C8.pe_c (c_text_of T) hr (by decide) (by rfl) (pa_cons (pv 1) (pa_cons (pe_lc (own := [("word", 3), ("form", 4)]) (by rfl) sc_replaced.nd (pi_list (C8.pe_mt0 (m_OpenText_pieces T) hr (by decide) (pv 0))) (blkOk_by (N := ["text", "many", "forms", "word", "form"]) (sc := C8.fnScope (topS 83)) (own := [("word", 3), ("form", 4)]) (by decide +kernel)) (fun _ _ _ _ _ => (pg_two (K := K) (i := 3) (j := 4) rfl rfl sc_replaced.nd rfl rfl (Or.inl rfl) (Or.inl rfl))) (fun _ _ _ _ _ => pts_nil) (fun _ _ _ _ _ => (pe_tup (pa_cons (pv 3) (pa_cons (C8.pe_c (c_form_inserted T) hr (by decide) (by rfl) (pa_cons (pv 4) (pa_cons (pv 1) (pa_cons (pv 2) pa_nil)))) pa_nil))))) pa_nil)))))))), ?_⟩
    refine ⟨_, rfl, a, k, ps, rfl, oa, _, rfl, m, rfl, by omega, by omega, ?_⟩
    refine ⟨_, rfl, _, rfl, a, dx, _, rfl, ha, (OF_no l0 k).2, a, k, ps, rfl, oa, _, rfl, l, k, m, gs, rfl, hl, lk, k3, m3, lg, fun H1 s1 => ⟨_, rfl, iteF ?_⟩⟩
    refine ⟨_, rfl, _, rfl, a, dx, _, rfl, s1 _ _ ha, (OF_no l0 k).1, a, k, ps, rfl, oa.same s1, fun L1 H2 s2 n2 g2 => ?_⟩
    obtain ⟨us, hus, pus⟩ := id g2.at_
    have lu := pus.len
    have few := g2.few
    have s12 := s1.trans s2
    refine ⟨L1, rfl, ⟨_, .inl (.inl hus)⟩, fun D hD => ?_⟩
    refine lc_list (K := K) (a := L1) (xs := us) (fun i H' => Same H2 H' ∧ PL H' D (K39.repl m gs (ps.take i)) ∧ i ≤ ps.length) ⟨sameNew hD, ⟨[], upd_same, .nil⟩, Nat.zero_le _⟩ (fun i H' _ p => .inl (.inl (p.1 _ _ hus))) (fun i x H' hi p => ?_) fun H' p => ?_
    · obtain ⟨s3, ⟨zs, hz, pz⟩, _⟩ := p
      obtain ⟨b, p, rfl, hpi, pc⟩ := pus.get hi
      have hii := (List.getElem?_eq_some_iff.mp hpi).1
      have mem := List.mem_of_getElem? hpi
      obtain ⟨fa, e1, e2⟩ := pc.mono (tup_same s3)
      refine ⟨b, _, rfl, .inl (.inl e1), rfl, _, _, rfl, _, _, rfl, rfl, rfl, ?_⟩
      refine ⟨_, rfl, _, rfl, _, rfl, _, rfl, fa, l, m, p.2, gs, rfl, e2, hl.same (s12.trans s3), m3, by have := g2.len p mem; omega, by omega, lg, g2.bf p mem, bg, fun p4 H4 s4 h4 => ⟨by show 2 ≤ sizeLine; decide, fun t ht => ?_⟩⟩
      have st := sameNew (o := .tup [.str (S p.1), .ref p4]) ht
      have hz4 := st _ _ (s4 _ _ hz)
      have lz := pz.len
      refine ⟨zs, hz4, by rw [lz]; unfold K39.repl; rw [List.length_map, List.length_take, sizeLine_eq]; omega, same_upd2 hD ((s3.trans s4).trans st), ⟨_, upd_same, ?_⟩, by omega⟩
      have eT : K39.repl m gs (ps.take (i + 1)) = K39.repl m gs (ps.take i) ++ [(p.1, insF m p.2 gs)] := by
        unfold K39.repl
        rw [List.take_succ, hpi, List.map_append]
        rfl
      rw [eT]
      exact ((pz.same (s4.trans st)).upd hz4).app (.one ⟨p4, tup_upd hz4 _ _ upd_same, tup_upd hz4 _ _ (st _ _ h4)⟩)
    · obtain ⟨s3, PD, _⟩ := p
      rw [lu, List.take_length] at PD
      exact ⟨D, m, K39.repl m gs ps, rfl, m3, ga.repl PD lg bi, hme, hw, fun x H5 s5 ot => q x H5 ((s12.trans s3).trans s5) ot⟩
end
end K39

set_option Elab.async false
set_option linter.all false
set_option maxRecDepth 100000
set_option maxHeartbeats 2000000
/-! t[::-1] of a tuple -/
namespace HT
open PySem PySem.Spec PyProof.Rows
section
variable {prog : Program} {w : World} {A : Around} {E : Value → Shared → Prop} {s : Shared}
theorem adjust_rev (n : Nat) : Builtin.Slice.sliceAdjust none none (-1) (n : Int) = ((n : Int) - 1, -1) := rfl
theorem places_rev (n : Nat) : Builtin.Slice.slicePlaces ((n : Int) - 1) (-1) (-1) = n := by
  unfold Builtin.Slice.slicePlaces
  have h1 : ¬ (-1 : Int) > 0 := by omega
  rw [if_neg h1, show ((n : Int) - 1 - -1 - 1) / - -1 = (n : Int) - 1 by rw [show (- -1 : Int) = 1 from rfl, Int.ediv_one]; omega]
  split <;> omega
theorem pick_rev (xs : Array Value) : ((List.range xs.size).filterMap fun (m : Nat) => xs[((xs.size : Int) - 1 + (m : Int) * (-1)).toNat]?).toArray = xs.toList.reverse.toArray := by
  congr 1
  obtain ⟨l⟩ := xs
  show (List.range l.length).filterMap (fun (m : Nat) => (l.toArray)[((l.length : Int) - 1 + (m : Int) * (-1)).toNat]?) = l.reverse
  have e : ∀ k, k ≤ l.length → (List.range k).filterMap (fun (m : Nat) => (l.toArray)[((l.length : Int) - 1 + (m : Int) * (-1)).toNat]?) = l.reverse.take k := by
    intro k
    induction k with
    | zero => intro _; rfl
    | succ k ih =>
      intro h
      rw [List.range_succ, List.filterMap_append, ih (by omega), List.take_succ]
      congr 1
      have e1 : ((l.length : Int) - 1 + (k : Int) * (-1)).toNat = l.length - 1 - k := by omega
      have hk : l.length - 1 - k < l.length := by omega
      rw [List.getElem?_reverse (by omega)]
      simp only [List.filterMap_cons, List.filterMap_nil, e1]
      rw [List.getElem?_toArray, List.getElem?_eq_getElem hk]
      rfl
  rw [e l.length (Nat.le_refl _), List.take_of_length_le (by rw [List.length_reverse]; omega)]
theorem sliceApplied_rev {sl : Addr} {vl vu vs : Value} {n : Nat} {Q : Int × Int × Nat → Shared → Prop} (hs : s.heap.IsSliceOf sl vl vu vs) (pl : IsPart vl none) (pu : IsPart vu none) (ps : IsPart vs (some (-1)))
    (h : Q (((n : Nat) : Int) - 1, -1, n) s) : wpAny (model prog w) A (Builtin.Slice.sliceApplied (.ref sl) (pure (n : Int))) Q E s := by
  obtain ⟨os, hos, hcs, hds⟩ := id hs
  unfold Builtin.Slice.sliceApplied Builtin.Slice.sliceFields
  refine wpAny_bind (wpAny_bind (wpAny_field hos hds (x := vl) rfl (wpAny_bind (wpAny_field hos hds (x := vu) rfl (wpAny_bind (wpAny_field hos hds (x := vs) rfl (wpAny_pure ?_)))))))
  refine wpAny_bind (slicePart_ ps ?_)
  show wpAny _ _ (if ((-1 : Int) == 0) = true then _ else _) _ _ s
  rw [if_neg (by decide)]
  refine wpAny_bind (slicePart_ pl (wpAny_bind (slicePart_ pu (wpAny_bind (wpAny_pure ?_)))))
  show wpAny _ _ (match Builtin.Slice.sliceAdjust none none (-1) (n : Int) with | (lo, hi) => pure (lo, (-1 : Int), Builtin.Slice.slicePlaces lo hi (-1))) _ _ s
  rw [adjust_rev n]
  show wpAny _ _ (pure (((n : Int) - 1), (-1 : Int), Builtin.Slice.slicePlaces ((n : Int) - 1) (-1) (-1))) _ _ s
  rw [places_rev]
  exact wpAny_pure h
theorem getItem_tuple_rev {t sl : Addr} {items : Array Value} {vl vu vs : Value} {Q : Value → Shared → Prop} (ht : IsTup s.heap t items) (hs : s.heap.IsSliceOf sl vl vu vs) (pl : IsPart vl none) (pu : IsPart vu none) (ps : IsPart vs (some (-1)))
    (h : Q (.ref s.heap.objs.size) { s with heap := s.heap.push { cls := .type "tuple", data := .seq items.toList.reverse.toArray } })
    (hsz : items.size ≤ sizeLine) : wpAny (model prog w) A (getItem (.ref t) (.ref sl)) Q E s := by
  have htake : sizeOk (.seq items.toList.reverse.toArray) := by
    show items.toList.reverse.toArray.size ≤ sizeLine
    rw [List.size_toArray, List.length_reverse, Array.length_toList]
    omega
  obtain ⟨os, hos, hcs, hds⟩ := id hs
  have hTs : s.TypeIs (.ref sl) "slice" := ⟨os, hos, hcs⟩
  unfold getItem
  try with_reducible refine wpAny_holding ?_
  first | refine wpAny_bind (wpAny_pure ?_) | skip
  refine wpAny_bind (wpAny_sequenceKey ht.typeIs (by decide) ?_)
  refine wpAny_bind (wpAny_callSpecial?_slot (name := Str.ofString "__getitem__") ht.typeIs PyProof.Rows.slot_tuple_getitem
    (wpAny_call_entry PyProof.Rows.slot_tuple_getitem ht.typeIs entry_tuple_getitem ?_ (args_tuple_getitem _ _)))
  show wpAny _ _ (Builtin.Tuple.tupleItemsOf (.ref t) >>= _) _ _ s
  refine wpAny_bind (tupleItemsOf_ ht ?_)
  refine wpAny_bind (wpAny_typeOf hTs ?_)
  rw [if_pos (by decide)]
  refine wpAny_bind (sliceApplied_rev hs pl pu ps ?_)
  have hno : ¬ ((((items.size : Nat) : Int) - 1 == 0 && (-1 : Int) == 1 && items.size == items.size) = true) := by simp
  show wpAny _ _ (if (((items.size : Nat) : Int) - 1 == 0 && (-1 : Int) == 1 && items.size == items.size) = true then _ else _) _ _ s
  rw [if_neg hno, pick_rev]
  first
    | exact wpAny_bind (m := Builtin.Tuple.tupleExact _) (wpAny_newObj_type (wpAny_pure ⟨_, rfl, wpAny_pure h⟩) htake)
    | exact wpAny_bind (m := Builtin.Tuple.tupleExact _) (wpAny_newObj_type (wpAny_bind (wpAny_pure (wpAny_pure ⟨_, rfl, wpAny_pure h⟩))) htake)
    | exact wpAny_bind (wpAny_bind (m := Builtin.Tuple.tupleExact _) (wpAny_newObj_type (wpAny_pure (wpAny_pure ⟨_, rfl, wpAny_pure h⟩)) htake))
    | exact wpAny_bind (wpAny_bind (m := Builtin.Tuple.tupleExact _) (wpAny_newObj_type (wpAny_pure ⟨_, rfl, wpAny_pure h⟩) htake))
end
end HT
namespace CK
open PySem PySem.Spec PyProof.Rows L2 SX
section
variable {X : Cx}
/-- t[::-1], a tuple -/
def tRevT (te : TE) : TE := fun σ H Q => te σ H fun x H1 => ∃ a xs, x = .ref a ∧ H1 a = some (.tup xs) ∧ ∀ p H', Same H1 H' → H' p = some (.tup xs.reverse) → Q (.ref p) H'
theorem pe_revT {e : Expr} {te : TE} {k : Nat} {p1 p2 p3 pos : Pos} (he : PE X e te) : PE X (.Subscript e (.Slice none none (some (.UnaryOp .USub (.Constant (.int 1) k p1) p2)) p3) pos) (tRevT te) := by
  refine ⟨fun pins s σ H Q I h => ?_⟩
  refine Subscript_ (thn (he.run pins s σ H _ I h) fun v s1 ⟨x, H1, I1, r1, q1⟩ => ?_)
  obtain ⟨a, xs, ex, hx, q⟩ := q1
  subst ex
  cases r1
  have hst : PO X (some (.UnaryOp .USub (.Constant (.int 1) k p1) p2)) (tPart (tUn (rU fun i => .int (-i)) (tC (.int 1)))) := po_some (pe_un un_neg pe_int)
  refine wpAny_Slice (thn (po_none.run pins s1 σ H1 (fun o H2 => o = none ∧ H2 = H1) I1 ⟨rfl, rfl⟩) fun vl s2 ⟨l, H2, I2, pl, el, e2⟩ => ?_)
  subst el e2
  refine thn (po_none.run pins s2 σ H2 (fun o H3 => o = none ∧ H3 = H2) I2 ⟨rfl, rfl⟩) fun vu s3 ⟨u, H3, I3, pu, eu, e3⟩ => ?_
  subst eu e3
  refine thn (hst.run pins s3 σ H3 (fun o H4 => o = some (-1) ∧ H4 = H3) I3 ⟨1, rfl, -1, rfl, rfl, rfl⟩) fun vs s4 ⟨o, H4, I4, ps, eo, e4⟩ => ?_
  subst eo e4
  have I5 : Inv X pins σ H4 { s4 with heap := s4.heap.push { cls := .type "slice", data := .fields #[vl, vu, vs] } } := I4.kept (t' := s4.toks) fun b ob q => Heap.get?_push_of_some _ q
  obtain ⟨its, r, ht, hz⟩ := I5.tuple (.inl (.inl hx))
  have hlen := r.length
  show wpAny (model X.prog X.w) X.A (subscriptTail e (.Slice none none (some (.UnaryOp .USub (.Constant (.int 1) k p1) p2)) p3) (.ref a) (.ref s4.heap.objs.size)) (EP X pins σ Q) X.xe { s4 with heap := s4.heap.push { cls := .type "slice", data := .fields #[vl, vu, vs] } }
  refine tail_any (ops := [.ref a, .ref s4.heap.objs.size]) ht.typeIs (PyProof.Rows.slot_tuple_getitem.lookup) ?_ (by with_unfolding_all rfl)
  refine HT.getItem_tuple_rev ht (Heap.IsSliceOf.new _ vl vu vs) pl pu ps ?_ (by rw [List.size_toArray]; omega)
  refine ⟨.ref _, _, I5.laid (t' := s4.toks) (o := .tup xs.reverse) (fun b ob q => Heap.get?_push_of_some _ q) (Nat.le_refl _) ?_, rfl, q _ _ (sameNew (I5.hok.fresh (Nat.le_refl _))) upd_same⟩
  exact ⟨by rw [List.length_reverse]; exact hz, its.reverse, r.reverse, IsTup.new _ _⟩
end
end CK

set_option Elab.async false
set_option linter.all false
set_option maxRecDepth 100000
set_option maxHeartbeats 4000000
namespace K39
open PySem PySem.Spec PyProof.Rows L2 CK SX NM
/-- a dict of images -/
structure Im (H : Hp) (d : Addr) (kvs : List (Key × V)) (img : Nat → List Nat) : Prop where
  at_ : H d = some (.dK kvs)
  few : kvs.length ≤ 26
  ok : ∀ k v, (k, v) ∈ kvs → ∃ c z, k = .inr (S [c]) ∧ v = .str (S z) ∧ Low [c] ∧ Low z ∧ z.length ≤ 40
  val : ∀ c, Low [c] → (valV kvs (.inr (S [c]))).getD (.str (S [c])) = .str (S (img c))
  len : ∀ c, (img c).length ≤ 40
  low : ∀ c, Low [c] → Low (img c)
theorem Im.same {H H' : Hp} {d : Addr} {kvs : List (Key × V)} {img : Nat → List Nat} (i : Im H d kvs img) (s : Same H H') : Im H' d kvs img := ⟨s _ _ i.at_, i.few, i.ok, i.val, i.len, i.low⟩
section
variable {P : Program} {w : World} {K : PySem.W.Frag} {mg : Str → Option Value} {base : Heap} {CK C : Addr}
end
end K39

set_option Elab.async false
set_option linter.all false
set_option maxRecDepth 100000
set_option maxHeartbeats 4000000
namespace K39
open PySem PySem.Spec PyProof.Rows L2 CK SX NM
def LP (H : Hp) (a : Addr) (pt : List Nat) : Prop := H a = some (.lst (natsV pt))
def vMulN : V → V → V
  | .int i, .int j => .int (i * j)
  | _, _ => .non
theorem zip_mulN : ∀ (f pt : List Nat), List.zipWith vMulN (natsV f) (natsV pt) = (List.zipWith (fun x y : Nat => ((x * y : Nat) : Int)) f pt).map V.int
  | [], _ => by simp [natsV]
  | _ :: _, [] => by simp [natsV]
  | x :: xs, y :: ys => by
    show V.int ((x : Int) * (y : Int)) :: List.zipWith vMulN (natsV xs) (natsV ys) = V.int ((x * y : Nat) : Int) :: _
    rw [zip_mulN xs ys, Int.natCast_mul]
theorem sum_zipN : ∀ (f pt : List Nat), (List.zipWith (fun x y : Nat => ((x * y : Nat) : Int)) f pt).sum = ((dot f pt : Nat) : Int)
  | [], _ => by simp [dot]
  | _ :: _, [] => by simp [dot]
  | x :: xs, y :: ys => by
    rw [List.zipWith_cons_cons, List.sum_cons, sum_zipN xs ys, dot, Int.natCast_add]
theorem joinL_nil : ∀ xs : List (List Nat), TL.joinL [] xs = xs.flatten
  | [] => rfl
  | [x] => by
    show x = _
    simp
  | x :: y :: r => by
    show x ++ ([] ++ TL.joinL [] (y :: r)) = _
    rw [joinL_nil (y :: r), List.nil_append]
    rfl
theorem len_empty : (Str.ofString "").length = 0 := by decide +kernel
theorem empty_S : (Str.ofString "" : Str) = S [] := by decide +kernel
theorem join_flat (xs : List (List Nat)) : Txt.join (Str.ofString "") (xs.map S) = S xs.flatten := by
  rw [empty_S, join_S [] xs, joinL_nil]
theorem len_flatS : ∀ xs : List (List Nat), ((xs.map S).map fun x => x.length).sum = xs.flatten.length
  | [] => rfl
  | x :: r => by
    rw [List.map_cons, List.map_cons, List.sum_cons, len_flatS r, S_len, List.flatten_cons, List.length_append]
/-- where a word stands first in itself doubled -/
theorem at_occ {z : List Nat} (h : z ≠ []) (i : Nat) : StrLaws.At (S ((z ++ z).drop 1)) (S z) (S ((z ++ z).drop 1)).length i ↔ i + 1 ≤ z.length ∧ Occ z i := by
  have n0 := List.length_pos_iff.mpr h
  unfold StrLaws.At
  rw [StrLaws.subAt_eq, S_len, S_len]
  show (i + z.length ≤ ((z ++ z).drop 1).length ∧ ((((z ++ z).drop 1).drop i).take z.length == z) = true) ↔ _
  rw [List.length_drop, List.length_append, List.drop_drop, beq_iff_eq]
  unfold Occ
  rw [Nat.add_comm 1 i]
  constructor
  · rintro ⟨a, b⟩
    exact ⟨by omega, b⟩
  · rintro ⟨a, b⟩
    exact ⟨by omega, b⟩
theorem find_prim {z : List Nat} (h : z ≠ []) : (Txt.find (S ((z ++ z).drop 1)) (S z) = (z.length : Int) - 1) ↔ WM.Prim z := by
  have n0 := List.length_pos_iff.mpr h
  have last := (at_occ h (z.length - 1)).mpr ⟨by omega, occ_last h⟩
  rcases PyProof.Rows.find_whole (S ((z ++ z).drop 1)) (S z) with ⟨_, no⟩ | ⟨i, e, hi, lo⟩
  · exact absurd last (no _)
  · have o := (at_occ h i).mp hi
    rw [e]
    constructor
    · intro ei
      refine Classical.byContradiction fun np => ?_
      obtain ⟨k, hk, ok⟩ := not_prim_occ h np
      exact lo k (by omega) ((at_occ h k).mpr ⟨by omega, ok⟩)
    · intro pr
      refine Classical.byContradiction fun ne => ?_
      exact occ_not_prim h (by omega) o.2 pr
section
variable {P : Program} {w : World} {K : PySem.W.Frag} {mg : Str → Option Value} {base : Heap} {CK C : Addr}
end
end K39

set_option linter.all false
set_option maxRecDepth 100000
namespace K39
open PySem PySem.Spec PyProof.Rows L2 CK SX NM
def sp_value : Sp := fun vs H Q _ => ∃ (fa pa : Addr) (f : F) (pt : List Nat) (m : Nat), vs = [.ref fa, .ref pa] ∧ FT H fa f ∧ LP H pa pt ∧ f.length = m + 1 ∧ pt.length = m ∧ m ≤ 3 ∧ Bf f ∧ Bf pt ∧ ∀ H', Same H H' → Q (.int (valF f pt : Nat)) H'
end K39

set_option Elab.async false
set_option linter.all false
set_option maxRecDepth 100000
set_option maxHeartbeats 4000000
namespace K39
open PySem PySem.Spec PyProof.Rows L2 CK SX NM
/-! ### the form of a text's length -/
def lenP (m : Nat) (ps : List Pn) : F := ps.foldl (fun acc p => addF acc (timesF p.1.length p.2)) (0 :: List.replicate m 0)
theorem len_lenQ {m : Nat} : ∀ (ps : List Pn) (acc : F), acc.length = m + 1 → LenF m ps → (ps.foldl (fun acc p => addF acc (timesF p.1.length p.2)) acc).length = m + 1
  | [], acc, h, _ => h
  | p :: r, acc, h, l => by
    have l0 := l p List.mem_cons_self
    have e : acc.length = (timesF p.1.length p.2).length := by rw [len_timesF, h, l0]
    exact len_lenQ r _ (by rw [len_add e, len_timesF, l0]) fun q hq => l q (List.mem_cons_of_mem _ hq)
theorem len_lenP {m : Nat} {ps : List Pn} (l : LenF m ps) : (lenP m ps).length = m + 1 := len_lenQ ps _ (by simp) l
theorem val_lenQ {m : Nat} (pt : List Nat) : ∀ (ps : List Pn) (acc : F), acc.length = m + 1 → LenF m ps → valF (ps.foldl (fun acc p => addF acc (timesF p.1.length p.2)) acc) pt = valF acc pt + (wr pt ps).length
  | [], acc, _, _ => by simp [wr]
  | p :: r, acc, h, l => by
    have l0 := l p List.mem_cons_self
    have e : acc.length = (timesF p.1.length p.2).length := by rw [len_timesF, h, l0]
    have e2 : (wrt pt p).length = p.1.length * valF p.2 pt := WM.pw_len _ _
    rw [List.foldl_cons, val_lenQ pt r _ (by rw [len_add e, len_timesF, l0]) fun q hq => l q (List.mem_cons_of_mem _ hq), val_add pt e, val_times, wr, List.length_append, e2]
    omega
theorem val_lenP {m : Nat} {ps : List Pn} (l : LenF m ps) (pt : List Nat) : valF (lenP m ps) pt = (wr pt ps).length := by
  unfold lenP
  rw [val_lenQ pt ps _ (by simp) l]
  have : valF (0 :: List.replicate m 0) pt = 0 := by
    unfold valF
    show 0 + dot (List.replicate m 0) pt = 0
    rw [dot_zero]
  rw [this, Nat.zero_add]
theorem bf_lenP {m : Nat} {ps : List Pn} (l : LenF m ps) (hw : Wl m ps) : Bf (lenP m ps) := fun x hx => by
  have a := mem_val (len_lenP l) hx
  rw [val_lenP l] at a
  exact Nat.lt_of_le_of_lt a hw
/-- words and numbers of times -/
inductive Ns (H : Hp) : List V → List (List Nat × Nat) → Prop
  | nil : Ns H [] []
  | cons {a : Addr} {vs : List V} {z : List Nat} {n : Nat} {xs : List (List Nat × Nat)} : H a = some (.tup [.str (S z), .int (n : Nat)]) → Ns H vs xs → Ns H (.ref a :: vs) ((z, n) :: xs)
theorem Ns.mono {H H' : Hp} {vs : List V} {xs : List (List Nat × Nat)} (h : Ns H vs xs) (s : ∀ b ys, H b = some (.tup ys) → H' b = some (.tup ys)) : Ns H' vs xs := by
  induction h with
  | nil => exact .nil
  | cons e _ ih => exact .cons (s _ _ e) ih
theorem Ns.len {H : Hp} {vs : List V} {xs : List (List Nat × Nat)} (h : Ns H vs xs) : vs.length = xs.length := by
  induction h with
  | nil => rfl
  | cons _ _ ih => simp [ih]
theorem Ns.get {H : Hp} {vs : List V} {xs : List (List Nat × Nat)} (h : Ns H vs xs) {i : Nat} {v : V} (hi : vs[i]? = some v) : ∃ a z n, v = .ref a ∧ xs[i]? = some (z, n) ∧ H a = some (.tup [.str (S z), .int (n : Nat)]) := by
  induction h generalizing i with
  | nil => simp at hi
  | cons e _ ih =>
    cases i with
    | zero =>
      cases hi
      exact ⟨_, _, _, rfl, rfl, e⟩
    | succ i => exact ih hi
theorem Ns.app {H : Hp} {vs us : List V} {xs ys : List (List Nat × Nat)} (h : Ns H vs xs) (g : Ns H us ys) : Ns H (vs ++ us) (xs ++ ys) := by
  induction h with
  | nil => exact g
  | cons e _ ih => exact .cons e ih
section
variable {P : Program} {w : World} {K : PySem.W.Frag} {mg : Str → Option Value} {base : Heap} {CK C : Addr}
theorem c_form_value (T : Txt K mg CK C) : C8.Cal P w K mg base 1 "form_value" sp_value [] := by
  refine calF T.d_form_value sc_form_value (fun vs H Q E h => ?_) (fun f cdv A outer s H vs Q E hr h => ?_)
  · obtain ⟨_, _, _, _, _, rfl, _⟩ := h; rfl
  · obtain ⟨a, b, f, p, m, rfl, ha, hb, lf, lp, m3, bf, bp, q⟩ := h
    refine ⟨_, (pss_one (ps_ret (pe_op op_add (pe_ix ix_tup (pv 0) pe_int (fun _ _ => rfl)) (pe_callB (cr_sum rfl) (by rfl) T.m_sum (by decide +kernel) (pa_cons (pe_lc (own := [("number", 2), ("count", 3)]) (by rfl) sc_form_value.nd (pi_zipB (K := K) rfl (by rfl) T.m_zip (pa_cons (pe_slice sl_drop (pv 0) (po_some pe_int) po_none) (pa_cons (pv 1) pa_nil))) (blkOk_by (N := ["form", "point", "number", "count"]) (sc := C8.fnScope (topS 26)) (own := [("number", 2), ("count", 3)]) (by decide +kernel)) (fun _ _ _ _ _ => (pg_two (K := K) (i := 2) (j := 3) rfl rfl sc_form_value.nd rfl rfl (Or.inl rfl) (Or.inl rfl))) (fun _ _ _ _ _ => pts_nil) (fun _ _ _ _ _ => (pe_op op_mulW (pv 2) (pv 3)))) pa_nil))))), ?_⟩
    obtain ⟨c, r, rfl⟩ : ∃ c r, f = c :: r := by cases f with | nil => simp at lf | cons c r => exact ⟨c, r, rfl⟩
    refine ⟨_, rfl, a, _, 0, .int (c : Nat), rfl, rfl, .inl (.inl ha), atI_nat (j := 0) rfl, ?_⟩
    refine ⟨_, rfl, 1, rfl, a, _, 1, rfl, rfl, rfl, ha, fun p1 H1 s1 h1 => ?_⟩
    have hb1 : LP H1 b p := s1 _ _ hb
    have h1' : H1 p1 = some (.tup (natsV r)) := h1
    refine ⟨_, rfl, .T, .L, p1, b, natsV r, natsV p, rfl, .inl (.inl h1'), .inl (.inl hb1), ?_⟩
    refine fun D hD => lcZ_map vMulN (by rw [natsV_len, natsV_len]; simp at lf; omega) (by rw [natsV_len]; exact small5 (by simp at lf; omega)) (fun H' s => ⟨.inl (.inl (s _ _ h1')), .inl (.inl (s _ _ hb1))⟩) (fun i x y H' R hx hy s q' => ?_) hD fun H' s hL => ?_
    · obtain ⟨x', mx, _, rfl⟩ := get_nat hx
      obtain ⟨y', my, _, rfl⟩ := get_nat hy
      have b1 := bf x' (List.mem_cons_of_mem _ mx)
      have b2 := bp y' my
      exact ⟨rfl, _, rfl, _, rfl, _, _, rfl, rfl, wide_mul (a := 900) (b := 900) (by omega) (by omega) (by decide) (by decide) (by decide), q' _ (Same.refl _)⟩
    · rw [zip_mulN] at hL
      refine ⟨D, _, rfl, .inl (.inl hL), _, _, rfl, rfl, ?_⟩
      rw [sum_zipN]
      have := q H' (s1.trans s)
      unfold valF at this
      rw [Int.natCast_add] at this
      exact this
def sp_counted (C : Addr) : Sp := fun vs H Q _ => ∃ (a pa : Addr) (m : Nat) (ps : List Pn) (pt : List Nat), vs = [.ref a, .ref pa] ∧ OT C H a m ps ∧ LP H pa pt ∧ pt.length = m ∧ m ≤ 3 ∧ Bf pt ∧ ∀ D us H', Same H H' → H' D = some (.lst us) → Ns H' us (ps.map fun p => (p.1, valF p.2 pt)) → Q (.ref D) H'
theorem c_counted (T : Txt K mg CK C) : C8.Cal P w K mg base 3 "counted" (sp_counted C) [] := by
  refine calF T.d_counted sc_counted (fun vs H Q E h => ?_) (fun f0 cdv A outer s H vs Q E hr h => ?_)
  · obtain ⟨_, _, _, _, _, rfl, _⟩ := h; rfl
  · obtain ⟨a, pa, m, ps, pt, rfl, oa, hpa, lpt, m3, bp, q⟩ := h
    obtain ⟨l, ⟨dx, ha⟩, ga⟩ := id oa
    refine ⟨_, (pss_one (ps_ret (pe_lc (own := [("word", 2), ("form", 3)]) (by rfl) sc_counted.nd (pi_list (C8.pe_mt0 (m_OpenText_pieces T) hr (by decide) (pv 0))) (blkOk_by (N := ["text", "point", "word", "form"]) (sc := C8.fnScope (topS 80)) (own := [("word", 2), ("form", 3)]) (by decide +kernel)) (fun _ _ _ _ _ => (pg_two (K := K) (i := 2) (j := 3) rfl rfl sc_counted.nd rfl rfl (Or.inl rfl) (Or.inl rfl))) (fun _ _ _ _ _ => pts_nil) (fun _ _ _ _ _ => (pe_tup (pa_cons (pv 2) (pa_cons (C8.pe_c (c_form_value T) hr (by decide) (by rfl) (pa_cons (pv 3) (pa_cons (pv 1) pa_nil))) pa_nil))))))), ?_⟩
    refine ⟨_, rfl, a, dx, _, rfl, ha, (OF_no l m).1, a, m, ps, rfl, oa, fun L1 H1 s1 n1 g1 => ?_⟩
    obtain ⟨vs, hvs, pvs⟩ := id g1.at_
    have lv := pvs.len
    have few := g1.few
    refine ⟨L1, rfl, ⟨_, .inl (.inl hvs)⟩, fun D hD => ?_⟩
    refine lc_list (K := K) (a := L1) (xs := vs) (fun i H2 => Same H1 H2 ∧ ∃ us, H2 D = some (.lst us) ∧ Ns H2 us ((ps.take i).map fun p => (p.1, valF p.2 pt))) ⟨sameNew hD, [], upd_same, .nil⟩ (fun i H2 _ p => .inl (.inl (p.1 _ _ hvs))) (fun i y H2 hi p => ?_) fun H2 p => ?_
    · obtain ⟨s2, us, hus, pus⟩ := p
      obtain ⟨b, p, rfl, hpi, pc⟩ := pvs.get hi
      have mem := List.mem_of_getElem? hpi
      obtain ⟨fa, e1, e2⟩ := pc.mono (tup_same s2)
      have lu := pus.len
      rw [List.length_map, List.length_take] at lu
      refine ⟨b, _, rfl, .inl (.inl e1), rfl, _, _, rfl, _, _, rfl, rfl, rfl, ?_⟩
      refine yes_if ⟨_, rfl, _, rfl, _, rfl, fa, pa, p.2, pt, m, rfl, e2, (s1.trans s2) _ _ hpa, g1.len p mem, lpt, m3, g1.bf p mem, bp, fun H3 s3 => ⟨by show 2 ≤ sizeLine; decide, fun t nt => ?_⟩⟩
      have st := sameNew (o := .tup [.str (S p.1), .int (valF p.2 pt : Nat)]) nt
      have sC := s3.trans st
      have hu := sC _ _ hus
      refine ⟨us, hu, by rw [sizeLine_eq]; omega, same_upd2 hD (s2.trans sC), _, upd_same, ?_⟩
      have eT : (ps.take (i + 1)).map (fun p => (p.1, valF p.2 pt)) = (ps.take i).map (fun p => (p.1, valF p.2 pt)) ++ [(p.1, valF p.2 pt)] := by
        rw [List.take_succ, hpi, List.map_append]
        rfl
      rw [eT]
      exact ((pus.mono (tup_same sC)).mono (tup_upd hu)).app (.cons (tup_upd hu _ _ upd_same) .nil)
    · obtain ⟨s2, us, hus, pus⟩ := p
      rw [lv, List.take_length] at pus
      exact q D us H2 (s1.trans s2) hus pus
def sp_length (C : Addr) : Sp := fun vs H Q _ => ∃ (a : Addr) (m : Nat) (ps : List Pn), vs = [.ref a] ∧ OT C H a m ps ∧ m ≤ 3 ∧ ∀ p H', Same H H' → FT H' p (lenP m ps) → Q (.ref p) H'
theorem c_length (T : Txt K mg CK C) : C8.Cal P w K mg base 3 "length" (sp_length C) [] := by
  refine calF T.d_length sc_length (fun vs H Q E h => ?_) (fun f0 cdv A outer s H vs Q E hr h => ?_)
  · obtain ⟨_, _, _, rfl, _⟩ := h; rfl
  · obtain ⟨a, m, ps, rfl, oa, m3, q⟩ := h
    obtain ⟨l, ⟨dx, ha⟩, ga⟩ := id oa
    refine ⟨_, (pss_cons (ps_expr (C8.pe_c (c_need_text T) hr (by decide) (by rfl) (pa_cons (pv 0) pa_nil)))
    (pss_cons (ps_set (i := 1) sc_length.nd rfl (Or.inl rfl) (C8.pe_c (c_plain_form T) hr (by decide) (by rfl) (pa_cons pe_int (pa_cons (C8.pe_mt0 (m_OpenText_many T) hr (by decide) (pv 0)) pa_nil))))
    (pss_cons (ps_for PassesOwn.never rfl (pi_list (C8.pe_mt0 (m_OpenText_pieces T) hr (by decide) (pv 0))) (pg_two (K := K) (i := 2) (j := 3) rfl rfl sc_length.nd rfl rfl (Or.inl rfl) (Or.inl rfl))
    (pss_one (ps_set (i := 1) sc_length.nd rfl (Or.inl rfl) (C8.pe_c (c_form_sum T) hr (by decide) (by rfl) (pa_cons (pv 1) (pa_cons (C8.pe_c (c_form_times T) hr (by decide) (by rfl) (pa_cons (pe_callB call_len_str (by rfl) T.m_len (by decide +kernel) (pa_cons (pv 2) pa_nil)) (pa_cons (pv 3) pa_nil))) pa_nil))))))
    (pss_one (ps_ret (pv 1)))))), ?_⟩
    refine ⟨_, rfl, a, m, ps, rfl, oa, ?_⟩
    refine ⟨_, rfl, a, dx, _, rfl, ha, (OF_no l m).2, a, m, ps, rfl, oa, m, 0, rfl, m3, fun p0 H1 s1 h1 => ?_⟩
    refine ⟨_, rfl, a, dx, _, rfl, s1 _ _ ha, (OF_no l m).1, a, m, ps, rfl, oa.same s1, fun L H2 s2 n2 g2 => ?_⟩
    obtain ⟨us, hus, pus⟩ := id g2.at_
    have lu := pus.len
    refine ⟨L, rfl, ⟨_, .inl (.inl hus)⟩, for_list (K := K) (a := L) (xs := us) (fun i σ H' => Same H2 H' ∧ ∃ (p : Addr) (y2 y3 : Option V), σ = [some (.ref a), some (.ref p), y2, y3] ∧ FT H' p (lenP m (ps.take i)))
      ⟨.refl _, p0, none, none, rfl, h1.same s2⟩ (fun i σ H' _ p => .inl (.inl (p.1 _ _ hus))) (fun i y σ H' hi pI => ?_) (fun σ H' pI => ?_)⟩
    · obtain ⟨s3, p, y2, y3, rfl, hp⟩ := pI
      obtain ⟨b, q', rfl, hpi, pc⟩ := pus.get hi
      have mem := List.mem_of_getElem? hpi
      have lp := g2.len q' mem
      have wp := g2.ws q' mem
      obtain ⟨fa, e1, e2⟩ := pc.mono (tup_same s3)
      have lF : LenF m (ps.take i) := fun z hz => g2.len z (List.mem_of_mem_take hz)
      have eT : lenP m (ps.take (i + 1)) = addF (lenP m (ps.take i)) (timesF q'.1.length q'.2) := by
        unfold lenP
        rw [List.take_succ, hpi, List.foldl_append]
        rfl
      refine ⟨b, _, rfl, .inl (.inl e1), rfl, _, _, rfl, _, _, rfl, rfl, ?_⟩
      have e2' : H' fa = some (.tup (natsV q'.2)) := e2
      refine ⟨_, rfl, _, rfl, S q'.1, rfl, len_line (by omega), _, rfl, q'.1.length, fa, q'.2, by show [V.int ((S q'.1).length : Nat), V.ref fa] = _; rw [S_len], e2', by omega, Nat.lt_of_le_of_lt (show q'.1.length ≤ 2000 by omega) (Nat.lt_of_lt_of_le (by decide : 2000 < 2 ^ 20) (Nat.pow_le_pow_right (by decide) (by decide))), g2.bf q' mem, fun p1 H3 s4 h3 => ?_⟩
      refine ⟨p, p1, _, _, rfl, hp.same s4, h3, by rw [len_lenP lF]; omega, by rw [len_lenP lF, len_timesF, lp], fun p2 H4 s5 h4 => ?_⟩
      rw [eT]
      exact ⟨(s3.trans s4).trans s5, p2, _, _, rfl, h4⟩
    · obtain ⟨s3, p, y2, y3, rfl, hp⟩ := pI
      rw [lu, List.take_length] at hp
      exact ⟨_, rfl, q p _ ((s1.trans s2).trans s3) hp⟩
def sp_is_counts : Sp := fun vs H Q _ => ∃ (pa : Addr) (m : Nat) (pt : List Nat), vs = [.ref pa, .int m] ∧ LP H pa pt ∧ pt.length = m ∧ m ≤ 3 ∧ ∀ H', Same H H' → Q (.bl true) H'
theorem c_is_counts (T : Txt K mg CK C) : C8.Cal P w K mg base 3 "is_counts" sp_is_counts [] := by
  refine calF T.d_is_counts sc_is_counts (fun vs H Q E h => ?_) (fun f cdv A outer s H vs Q E hr h => ?_)
  · obtain ⟨_, _, _, rfl, _⟩ := h; rfl
  · obtain ⟨l, m, pt, rfl, hl, lpt, m3, q⟩ := h
    have kn : Kn H (.ref l) := .lst hl
    refine ⟨_, (pss_one (ps_ret (pe_and (pe_callB call_isK (by rfl) T.m_isinstance (by decide +kernel) (pa_cons (pv 0) (pa_cons (pe_bltn (v := .ty "list") (by rfl) T.m_list (by decide +kernel) rfl) pa_nil))) (pe_and (pe_cmpR op_eq (pe_callB call_len_seq (by rfl) T.m_len (by decide +kernel) (pa_cons (pv 0) pa_nil)) (pv 1) (nomark _)) (pe_one (pe_callB (cr_all rfl) (by rfl) T.m_all (by decide +kernel) (pa_cons (pe_lc (own := [("number", 2)]) (by rfl) sc_is_counts.nd (pi_list (pv 0)) (blkOk_by (N := ["value", "many", "number"]) (sc := C8.fnScope (topS 18)) (own := [("number", 2)]) (by decide +kernel)) (fun _ _ _ _ _ => (pg_name (i := 2) sc_is_counts.nd rfl (Or.inl rfl))) (fun _ _ _ _ _ => pts_nil) (fun _ _ _ _ _ => (C8.pe_c (c_is_count T) hr (by decide) (by rfl) (pa_cons (pv 2) pa_nil)))) pa_nil))))))), ?_⟩
    refine ⟨_, rfl, .ref l, "list", _, rfl, kn, kit_list kn, _, rfl, ?_⟩
    rw [isLi_lst hl]
    refine iteT ⟨_, rfl, l, _, rfl, .inl (.inl (.inl hl)), _, rfl, rfl, _, rfl, ?_⟩
    rw [decide_eq_true (by rw [natsV_len, lpt])]
    refine iteT ⟨_, rfl, l, rfl, ⟨_, .inl (.inl hl)⟩, fun D hD => ?_⟩
    refine lcL_mapI (K := K) (a := l) (xs := natsV pt) (fun _ => V.bl true) hl (small1000 (by rw [natsV_len]; omega)) (fun i x H' R hx s' q' => ?_) hD fun H' s' hL => ?_
    · obtain ⟨x', mx, _, rfl⟩ := get_nat hx
      refine ⟨rfl, _, rfl, _, rfl, .int _, ?_⟩
      rw [show isC (.int (x' : Nat)) = true from (decide_eq_true (by omega) : decide ((0 : Int) ≤ (x' : Nat)) = true)]
      exact q' _ (Same.refl _)
    · refine ⟨D, (List.range (natsV pt).length).map fun _ => true, rfl, .inl (.inl (by rw [hL, List.map_map]; rfl)), ?_⟩
      rw [show ((List.range (natsV pt).length).map fun _ => true).all id = true by simp]
      exact q H' s'
def sp_need_point : Sp := fun vs H Q _ => ∃ (pa : Addr) (m : Nat) (pt : List Nat), vs = [.ref pa, .int m] ∧ LP H pa pt ∧ pt.length = m ∧ m ≤ 3 ∧ ∀ H', Same H H' → Q .non H'
theorem c_need_point (T : Txt K mg CK C) : C8.Cal P w K mg base 4 "need_point" sp_need_point [] := by
  refine calF T.d_need_point sc_need_point (fun vs H Q E h => ?_) (fun f cdv A outer s H vs Q E hr h => ?_)
  · obtain ⟨_, _, _, rfl, _⟩ := h; rfl
  · obtain ⟨l, m, pt, rfl, hl, lpt, m3, q⟩ := h
    refine ⟨_, (pss_one (ps_if (pt_not (pt_val (C8.pe_c (c_is_counts T) hr (by decide) (by rfl) (pa_cons (pv 0) (pa_cons (pv 1) pa_nil)))))
    (pss_one ps_never)
    pss_nil)), ?_⟩
    exact ⟨_, rfl, _, rfl, l, m, pt, rfl, hl, lpt, m3, fun H' s' => ⟨_, rfl, iteF (q H' s')⟩⟩
end
end K39

set_option linter.all false
/-! kept words: lists of pieces (word, number), what they write, their tidy form, their parts (no Python here) -/
namespace KM
open WM
abbrev Pc := List Nat × Nat
def wr : List Pc → List Nat
  | [] => []
  | p :: r => pw p.1 p.2 ++ wr r
def plen (p : Pc) : Nat := p.1.length * p.2
def long (ps : List Pc) : Nat := (ps.map plen).sum
theorem wr_len : ∀ ps, (wr ps).length = long ps
  | [] => rfl
  | p :: r => by
    rw [wr, List.length_append, pw_len, wr_len r]
    simp [long, plen]
theorem wr_app : ∀ a b, wr (a ++ b) = wr a ++ wr b
  | [], b => rfl
  | p :: r, b => by rw [List.cons_append, wr, wr, wr_app r b, List.append_assoc]
theorem pw_nil (n : Nat) : pw [] n = [] := List.length_eq_zero_iff.mp (by rw [pw_len]; simp)
/-! ### tidy lists -/
def stepT (acc : List Pc) (p : Pc) : List Pc :=
  if p.1 = [] ∨ p.2 = 0 then acc
  else match acc.getLast? with
    | some q => if q.1 = p.1 then acc.dropLast ++ [(p.1, p.2 + q.2)] else acc ++ [p]
    | none => acc ++ [p]
def tidy (ps : List Pc) : List Pc := ps.foldl stepT []
theorem last_split {α : Type} {l : List α} {q : α} (h : l.getLast? = some q) : l = l.dropLast ++ [q] := by
  obtain ⟨ne, e⟩ := List.getLast?_eq_some_iff.mp h
  subst e
  simp
theorem wr_stepT (acc : List Pc) (p : Pc) : wr (stepT acc p) = wr acc ++ pw p.1 p.2 := by
  unfold stepT
  split
  · next h =>
    rcases h with h | h
    · rw [h, pw_nil, List.append_nil]
    · rw [h, pw_zero, List.append_nil]
  · split
    · next q hq =>
      split
      · next e =>
        have s := last_split hq
        have : wr acc = wr acc.dropLast ++ pw q.1 q.2 := by
          conv => lhs; rw [s]
          rw [wr_app]
          simp [wr]
        rw [this, wr_app, wr, wr, List.append_nil, List.append_assoc, ← e, Nat.add_comm, pw_add]
      · rw [wr_app, wr, wr, List.append_nil]
    · rw [wr_app, wr, wr, List.append_nil]
theorem wr_foldT : ∀ (ps acc : List Pc), wr (ps.foldl stepT acc) = wr acc ++ wr ps
  | [], acc => by simp [wr]
  | p :: r, acc => by rw [List.foldl_cons, wr_foldT r, wr_stepT, wr, List.append_assoc]
theorem wr_tidy (ps : List Pc) : wr (tidy ps) = wr ps := wr_foldT ps []
/-- neighbours differ, nothing empty -/
inductive Ty : List Pc → Prop
  | nil : Ty []
  | one {p : Pc} : p.1 ≠ [] → p.2 ≠ 0 → Ty [p]
  | snoc {l : List Pc} {q p : Pc} : Ty (l ++ [q]) → p.1 ≠ [] → p.2 ≠ 0 → q.1 ≠ p.1 → Ty (l ++ [q] ++ [p])
theorem Ty.init {l : List Pc} {p : Pc} (h : Ty (l ++ [p])) : Ty l := by
  generalize e : l ++ [p] = m at h
  cases h with
  | nil => simp at e
  | one a b =>
    have : l = [] := by
      have := congrArg List.length e
      simp at this
      exact this
    subst this
    exact .nil
  | snoc a b c d =>
    have := (List.append_inj' e rfl).1
    subst this
    exact a
theorem Ty.last {l : List Pc} {p : Pc} (h : Ty (l ++ [p])) : p.1 ≠ [] ∧ p.2 ≠ 0 := by
  generalize e : l ++ [p] = m at h
  cases h with
  | nil => simp at e
  | one a b =>
    rename_i q
    have : p = q := by
      cases l with
      | nil => simpa using e
      | cons x r =>
        have := congrArg List.length e
        simp at this
    subst this
    exact ⟨a, b⟩
  | snoc a b c d =>
    have := (List.append_inj' e rfl).2
    simp at this
    subst this
    exact ⟨b, c⟩
theorem Ty.step {acc : List Pc} (h : Ty acc) (p : Pc) : Ty (stepT acc p) := by
  unfold stepT
  split
  · exact h
  · next hp =>
    have hp' : p.1 ≠ [] ∧ p.2 ≠ 0 := ⟨fun z => hp (.inl z), fun z => hp (.inr z)⟩
    split
    · next q hq =>
      have s := last_split hq
      rw [s] at h
      split
      · next e =>
        generalize acc.dropLast = l at h
        generalize em : l ++ [q] = m at h
        cases h with
        | nil => simp at em
        | one a b =>
          have : l = [] := by
            have := congrArg List.length em
            simp at this
            exact this
          subst this
          exact .one hp'.1 (by show p.2 + q.2 ≠ 0; omega)
        | snoc a b c d =>
          rename_i l' q' p'
          have e1 := (List.append_inj' em rfl).1
          have e2 := (List.append_inj' em rfl).2
          simp at e2
          subst e1 e2
          exact .snoc a hp'.1 (by show p.2 + q.2 ≠ 0; omega) (by show q'.1 ≠ p.1; rw [← e]; exact d)
      · next e =>
        have : acc ++ [p] = acc.dropLast ++ [q] ++ [p] := by rw [← s]
        rw [this]
        exact .snoc h hp'.1 hp'.2 e
    · next hq =>
      have : acc = [] := List.getLast?_eq_none_iff.mp hq
      subst this
      exact .one hp'.1 hp'.2
theorem Ty.fold : ∀ (ps : List Pc) {acc : List Pc}, Ty acc → Ty (ps.foldl stepT acc)
  | [], _, h => h
  | p :: r, _, h => Ty.fold r (h.step p)
theorem ty_tidy (ps : List Pc) : Ty (tidy ps) := Ty.fold ps .nil
theorem tidy_snoc (ps : List Pc) (p : Pc) : tidy (ps ++ [p]) = stepT (tidy ps) p := by simp [tidy, List.foldl_append]
theorem tidy_id {ps : List Pc} (h : Ty ps) : tidy ps = ps := by
  induction h with
  | nil => rfl
  | one a b => simp [tidy, stepT, a, b]
  | snoc h a b c ih =>
    rw [tidy_snoc, ih]
    unfold stepT
    rw [if_neg (by simp [a, b])]
    simp [c]
theorem Ty.all {ps : List Pc} (h : Ty ps) : ∀ p ∈ ps, p.1 ≠ [] ∧ p.2 ≠ 0 := by
  induction h with
  | nil => simp
  | one a b => simp; exact ⟨a, b⟩
  | snoc h a b c ih =>
    intro p hp
    rcases List.mem_append.mp hp with z | z
    · exact ih p z
    · rw [List.mem_singleton.mp z]
      exact ⟨a, b⟩
/-! ### the opposite order -/
def mir (ps : List Pc) : List Pc := ps.reverse.map fun p => (p.1.reverse, p.2)
theorem pw_rev (w : List Nat) : ∀ n, pw w.reverse n = (pw w n).reverse
  | 0 => rfl
  | n + 1 => by
    have : pw w (n + 1) = pw w n ++ w := by rw [pw_add]; simp [pw]
    rw [this, pw_succ, pw_rev w n, List.reverse_append]
theorem wr_mir : ∀ ps, wr (mir ps) = (wr ps).reverse
  | [] => rfl
  | p :: r => by
    have : mir (p :: r) = mir r ++ [(p.1.reverse, p.2)] := by simp [mir]
    rw [this, wr_app, wr_mir r, wr, wr, wr, List.append_nil, pw_rev, List.reverse_append]
/-- the same, from the other side -/
theorem Ty.cons {l : List Pc} {p q : Pc} (h : Ty (q :: l)) (a : p.1 ≠ []) (b : p.2 ≠ 0) (c : p.1 ≠ q.1) : Ty (p :: q :: l) := by
  generalize e : q :: l = m at h
  induction h generalizing q l with
  | nil => cases e
  | one a1 b1 =>
    cases e
    exact .snoc (l := []) (.one a b) a1 b1 c
  | snoc h a1 b1 c1 ih =>
    rename_i l' q' p'
    cases l' with
    | nil =>
      cases e
      exact .snoc (l := [p]) (.snoc (l := []) (.one a b) h.last.1 h.last.2 c) a1 b1 c1
    | cons x r =>
      cases e
      have := ih c rfl
      exact .snoc (l := p :: q :: r) this a1 b1 c1
theorem ty_mir {ps : List Pc} (h : Ty ps) : Ty (mir ps) := by
  induction h with
  | nil => exact .nil
  | one a b => exact .one (by simpa using a) b
  | snoc h a b c ih =>
    rename_i l q p
    have e : mir (l ++ [q] ++ [p]) = (p.1.reverse, p.2) :: (q.1.reverse, q.2) :: mir l := by simp [mir]
    have e2 : mir (l ++ [q]) = (q.1.reverse, q.2) :: mir l := by simp [mir]
    rw [e]
    rw [e2] at ih
    exact ih.cons (by simpa using a) b (by intro z; exact c (List.reverse_inj.mp z).symm)
/-! ### ends and letters -/
def endsF (s : Nat) : List Pc → List Nat
  | [] => []
  | p :: r => (s + plen p) :: endsF (s + plen p) r
theorem endsF_len : ∀ (ps : List Pc) (s : Nat), (endsF s ps).length = ps.length
  | [], _ => rfl
  | p :: r, s => by simp [endsF, endsF_len r]
theorem endsF_app : ∀ (a b : List Pc) (s : Nat), endsF s (a ++ b) = endsF s a ++ endsF (s + long a) b
  | [], b, s => by simp [endsF, long]
  | p :: r, b, s => by
    rw [List.cons_append, endsF, endsF, endsF_app r b, List.cons_append]
    simp [long, Nat.add_assoc]
/-- the law's way to a letter -/
def let1 : List Pc → Nat → Option Nat
  | [], _ => none
  | p :: r, i => if i < plen p then p.1[i % p.1.length]? else let1 r (i - plen p)
theorem let1_eq : ∀ (ps : List Pc) (i : Nat), let1 ps i = (wr ps)[i]?
  | [], i => by simp [let1, wr]
  | p :: r, i => by
    have pl : (pw p.1 p.2).length = plen p := pw_len _ _
    rw [let1, wr]
    split
    · next h =>
      have ne : p.1 ≠ [] := fun z => by simp [plen, z] at h
      rw [List.getElem?_append_left (by omega), pw_get ne _ _ h]
    · next h => rw [List.getElem?_append_right (by omega), let1_eq r, pl]
/-- a letter by the piece it lies in -/
theorem let_at {ps : List Pc} {k s e i : Nat} {p : Pc} (hp : ps[k]? = some p) (he : (endsF 0 ps)[k]? = some e) (h1 : i < e) (h0 : e - plen p ≤ i) (hle : plen p ≤ e) : (wr ps)[i]? = p.1[(i - (e - plen p)) % p.1.length]? ∧ p.1 ≠ [] := by
  have hk := (List.getElem?_eq_some_iff.mp hp).1
  have s1 : ps = ps.take k ++ (p :: ps.drop (k + 1)) := by
    have := List.getElem_cons_drop hk
    have e2 := (List.getElem?_eq_some_iff.mp hp).2
    rw [e2] at this
    rw [this, List.take_append_drop]
  have l1 : (ps.take k).length = k := by rw [List.length_take]; omega
  have ee : e = long (ps.take k) + plen p := by
    rw [s1, endsF_app, List.getElem?_append_right (by rw [endsF_len, l1]; exact Nat.le_refl _), endsF_len, l1, Nat.sub_self] at he
    simp [endsF] at he
    omega
  have ne : p.1 ≠ [] := fun z => by simp [plen, z] at h0 ee; omega
  refine ⟨?_, ne⟩
  rw [s1, wr_app, wr, List.getElem?_append_right (by rw [wr_len]; omega), wr_len, List.getElem?_append_left (by rw [pw_len]; show _ < plen p; omega), pw_get ne _ _ (by show _ < plen p; omega)]
  congr 2
  omega
/-! ### parts -/
def rot (w : List Nat) (k : Nat) : List Nat := w.drop k ++ w.take k
theorem rot_len (w : List Nat) (k : Nat) : (rot w k).length = w.length := by
  simp [rot]
  omega
theorem rot_get {w : List Nat} {k j : Nat} (hk : k < w.length) (hj : j < w.length) : (rot w k)[j]? = w[(k + j) % w.length]? := by
  unfold rot
  by_cases h : j < w.length - k
  · rw [List.getElem?_append_left (by simp; omega), List.getElem?_drop, Nat.mod_eq_of_lt (by omega)]
  · rw [List.getElem?_append_right (by simp; omega), List.length_drop, List.getElem?_take_of_lt (by omega), Nat.mod_eq_sub_mod (by omega), Nat.mod_eq_of_lt (by omega)]
    congr 1
    omega
def two (w : List Nat) (a b : Nat) : List Pc := [(rot w (a % w.length), (b - a) / w.length), ((rot w (a % w.length)).take ((b - a) % w.length), 1)]
theorem two_get {w : List Nat} (ne : w ≠ []) (a b : Nat) (j : Nat) (hj : j < b - a) : (wr (two w a b))[j]? = w[(a + j) % w.length]? := by
  have n0 := List.length_pos_iff.mpr ne
  have ha := Nat.mod_lt a n0
  have rl := rot_len w (a % w.length)
  have rne : rot w (a % w.length) ≠ [] := fun z => by rw [z] at rl; simp at rl; omega
  have e : wr (two w a b) = pw (rot w (a % w.length)) ((b - a) / w.length) ++ (rot w (a % w.length)).take ((b - a) % w.length) := by
    simp [two, wr, pw]
  have hd := Nat.div_add_mod (b - a) w.length
  have pl := pw_len (rot w (a % w.length)) ((b - a) / w.length)
  rw [rl] at pl
  rw [e]
  have key : ∀ i, (rot w (a % w.length))[i % w.length]? = w[(a + i) % w.length]? := fun i => by
    rw [rot_get ha (Nat.mod_lt i n0), ← Nat.add_mod]
  by_cases h : j < w.length * ((b - a) / w.length)
  · rw [List.getElem?_append_left (by omega), pw_get rne _ _ (by rw [rl]; exact h), rl, key]
  · rw [List.getElem?_append_right (by omega), pl, List.getElem?_take_of_lt (by omega)]
    have h2 : j - w.length * ((b - a) / w.length) < w.length := by
      have := Nat.mod_lt (b - a) n0
      omega
    have := key j
    rw [← this]
    congr 1
    have : j % w.length = (j - w.length * ((b - a) / w.length)) % w.length := (Nat.sub_mul_mod (by omega)).symm
    rw [this, Nat.mod_eq_of_lt h2]
theorem two_len {w : List Nat} (ne : w ≠ []) (a b : Nat) : (wr (two w a b)).length = b - a := by
  have n0 := List.length_pos_iff.mpr ne
  have rl := rot_len w (a % w.length)
  have hd := Nat.div_add_mod (b - a) w.length
  have := Nat.mod_lt (b - a) n0
  simp [two, wr_len, long, plen, rl]
  omega
def cut1 (lo hi s : Nat) (p : Pc) : List Pc := if s < hi ∧ lo < s + plen p then two p.1 (lo - s) (min hi (s + plen p) - s) else []
def cutF (lo hi : Nat) (s : Nat) : List Pc → List Pc
  | [] => []
  | p :: r => cut1 lo hi s p ++ cutF lo hi (s + plen p) r
theorem wr_cut1 {lo hi s : Nat} {p : Pc} (ne : p.1 ≠ []) : wr (cut1 lo hi s p) = ((pw p.1 p.2).take (hi - s)).drop (lo - s) := by
  have pl : (pw p.1 p.2).length = plen p := pw_len _ _
  unfold cut1
  split
  · next h =>
    have e0 : min hi (s + plen p) - s = min (hi - s) (plen p) := by omega
    rw [e0]
    have l1 := two_len ne (lo - s) (min (hi - s) (plen p))
    have l2 : (((pw p.1 p.2).take (hi - s)).drop (lo - s)).length = min (hi - s) (plen p) - (lo - s) := by simp [pl]
    refine List.ext_getElem? fun j => ?_
    by_cases hj : j < min (hi - s) (plen p) - (lo - s)
    · rw [two_get ne _ _ _ hj, List.getElem?_drop, List.getElem?_take_of_lt (by omega), pw_get ne _ _ (by show _ < plen p; omega)]
    · rw [List.getElem?_eq_none (by omega), List.getElem?_eq_none (by omega)]
  · next h =>
    symm
    refine List.drop_eq_nil_of_le ?_
    rw [List.length_take, pl]
    omega
theorem wr_cutF {lo hi : Nat} : ∀ (ps : List Pc) (s : Nat), (∀ p ∈ ps, p.1 ≠ []) → wr (cutF lo hi s ps) = ((wr ps).take (hi - s)).drop (lo - s)
  | [], s, _ => by simp [cutF, wr]
  | p :: r, s, h => by
    have pl : (pw p.1 p.2).length = plen p := pw_len _ _
    rw [cutF, wr_app, wr_cut1 (h p List.mem_cons_self), wr_cutF r _ (fun q hq => h q (List.mem_cons_of_mem _ hq)), wr, List.take_append, List.drop_append, pl, List.length_take, pl,
      show hi - (s + plen p) = hi - s - plen p by omega]
    congr 1
    by_cases z : hi - s ≤ plen p
    · rw [show hi - s - plen p = 0 by omega]
      simp
    · congr 1
      omega
def part (ps : List Pc) (lo hi : Nat) : List Pc := tidy (cutF lo hi 0 ps)
theorem wr_part {ps : List Pc} {lo hi : Nat} (h : ∀ p ∈ ps, p.1 ≠ []) : wr (part ps lo hi) = ((wr ps).take hi).drop lo := by
  unfold part
  rw [wr_tidy, wr_cutF ps 0 h, Nat.sub_zero, Nat.sub_zero]
theorem part_len {ps : List Pc} {lo hi : Nat} (h : ∀ p ∈ ps, p.1 ≠ []) (hh : hi ≤ long ps) : long (part ps lo hi) = hi - lo := by
  rw [← wr_len, wr_part h, List.length_drop, List.length_take, wr_len]
  omega
theorem part_get {ps : List Pc} {lo hi i : Nat} (h : ∀ p ∈ ps, p.1 ≠ []) (hi' : i < hi - lo) : (wr (part ps lo hi))[i]? = (wr ps)[lo + i]? := by
  rw [wr_part h, List.getElem?_drop, List.getElem?_take_of_lt (by omega)]
/-- the whole of it -/
theorem cutF_all : ∀ (ps : List Pc) (s hi : Nat), (∀ p ∈ ps, p.1 ≠ [] ∧ p.2 ≠ 0) → s + long ps ≤ hi → ∀ acc, (cutF 0 hi s ps).foldl stepT acc = ps.foldl stepT acc
  | [], _, _, _, _, _ => rfl
  | p :: r, s, hi, h, hl, acc => by
    have hp := h p List.mem_cons_self
    have n0 := List.length_pos_iff.mpr hp.1
    have p0 : 0 < plen p := Nat.mul_pos n0 (Nat.pos_of_ne_zero hp.2)
    have ll : long (p :: r) = plen p + long r := by simp [long]
    have e : cut1 0 hi s p = [p, ([], 1)] := by
      unfold cut1
      rw [if_pos ⟨by omega, by omega⟩, show min hi (s + plen p) - s = plen p by omega]
      unfold two
      have e1 : plen p / p.1.length = p.2 := Nat.mul_div_cancel_left _ n0
      have e2 : plen p % p.1.length = 0 := Nat.mul_mod_right _ _
      rw [Nat.zero_sub, Nat.sub_zero, Nat.zero_mod, e1, e2]
      simp [rot]
    rw [cutF, e, List.foldl_append, List.foldl_cons, List.foldl_cons, List.foldl_nil, List.foldl_cons, cutF_all r _ hi (fun q hq => h q (List.mem_cons_of_mem _ hq)) (by omega)]
    congr 1
theorem part_all {ps : List Pc} (h : Ty ps) : part ps 0 (long ps) = ps := by
  unfold part tidy
  rw [cutF_all ps 0 _ h.all (by omega)]
  exact tidy_id h
end KM

set_option Elab.async false
set_option linter.all false
set_option maxRecDepth 100000
set_option maxHeartbeats 2000000
namespace K39K
open K39 PySem PySem.Spec PyProof.Rows L2 CK SX KM
/-! ### letters -/
def Low (w : List Nat) : Prop := ∀ c ∈ w, 97 ≤ c ∧ c ≤ 122
theorem low_cases {c : Nat} (h : 97 ≤ c ∧ c ≤ 122) : Unicode.isAlpha c = true ∧ Unicode.isLower c = true ∧ (Unicode.isUpper c || Unicode.isTitle c) = false := by
  have : c ∈ List.range' 97 26 := by
    rw [List.mem_range']
    exact ⟨c - 97, by omega, by omega⟩
  have all : (List.range' 97 26).all (fun c => Unicode.isAlpha c && Unicode.isLower c && !(Unicode.isUpper c || Unicode.isTitle c)) = true := by decide +kernel
  have := List.all_eq_true.mp all c this
  simp only [Bool.and_eq_true, Bool.not_eq_true'] at this
  exact ⟨this.1.1, this.1.2, this.2⟩
theorem low_ascii {w : List Nat} (h : Low w) : Txt.isascii (S w) = true := by
  unfold Txt.isascii
  rw [← Array.all_toList, List.all_eq_true]
  exact fun c hc => decide_eq_true (by have := h c hc; omega)
theorem low_alpha {w : List Nat} (h : Low w) (ne : w ≠ []) : Txt.isalpha (S w) = true := by
  unfold Txt.isalpha
  rw [← Array.all_toList, S_len, decide_eq_true (List.length_pos_iff.mpr ne), Bool.true_and, List.all_eq_true]
  exact fun c hc => (low_cases (h c hc)).1
theorem low_lower {w : List Nat} (h : Low w) (ne : w ≠ []) : Txt.islower (S w) = true := by
  unfold Txt.islower
  rw [← Array.any_toList, ← Array.any_toList, Bool.and_eq_true]
  constructor
  · obtain ⟨c, hc⟩ := List.exists_mem_of_ne_nil w ne
    exact List.any_eq_true.mpr ⟨c, hc, (low_cases (h c hc)).2.1⟩
  · rw [Bool.not_eq_true', List.any_eq_false]
    exact fun c hc => by rw [(low_cases (h c hc)).2.2]; exact Bool.false_ne_true
section
variable {P : Program} {w : World} {K : PySem.W.Frag} {mg : Str → Option Value} {base : Heap} {C CO : Addr}
/-! ### checks -/
def sp_is_whole : Sp := fun vs H Q _ => ∃ v, vs = [v] ∧ Kn H v ∧ Q (.bl (isW v)) H
theorem c_is_whole (T : Txt K mg C CO) : C8.Cal P w K mg base 1 "is_whole" sp_is_whole [] := by
  refine calF T.d_is_whole sc_is_whole (fun vs H Q E h => ?_) (fun f cdv A outer s H vs Q E hr h => ?_)
  · obtain ⟨v, rfl, _⟩ := h; rfl
  · obtain ⟨v, rfl, k, q⟩ := h
    refine ⟨_, (pss_one (ps_ret (pe_and (pe_callB call_isK (by rfl) T.m_isinstance (by decide +kernel) (pa_cons (pv 0) (pa_cons (pe_bltn (v := .ty "int") (by rfl) T.m_int (by decide +kernel) rfl) pa_nil))) (pe_one (pe_not (pe_callB call_isK (by rfl) T.m_isinstance (by decide +kernel) (pa_cons (pv 0) (pa_cons (pe_bltn (v := .ty "bool") (by rfl) T.m_bool (by decide +kernel) rfl) pa_nil)))))))), ?_⟩
    refine ⟨v, rfl, v, "int", _, rfl, k, kit_int k, _, rfl, ite2 (fun e => ?_) (fun e => ?_)⟩
    · refine ⟨v, rfl, v, "bool", _, rfl, k, kit_bool k, _, rfl, ?_⟩
      rw [show (!isBo v) = isW v by cases v <;> first | rfl | (exact absurd e Bool.false_ne_true)]
      exact q
    · rw [show false = isW v by cases v <;> first | rfl | (exact absurd rfl e)]
      exact q
def sp_is_count : Sp := fun vs H Q _ => ∃ v, vs = [v] ∧ Kn H v ∧ Q (.bl (isC v)) H
theorem c_is_count (T : Txt K mg C CO) : C8.Cal P w K mg base 2 "is_count" sp_is_count [] := by
  refine calF T.d_is_count sc_is_count (fun vs H Q E h => ?_) (fun f cdv A outer s H vs Q E hr h => ?_)
  · obtain ⟨v, rfl, _⟩ := h; rfl
  · obtain ⟨v, rfl, k, q⟩ := h
    refine ⟨_, (pss_one (ps_ret (pe_and (C8.pe_c (c_is_whole T) hr (by decide) (by rfl) (pa_cons (pv 0) pa_nil)) (pe_one (pe_cmpR op_ge (pv 0) pe_int (nomark _)))))), ?_⟩
    refine ⟨v, rfl, v, rfl, k, _, rfl, ite2 (fun e => ?_) (fun e => ?_)⟩
    · cases v <;> first | (exact absurd e Bool.false_ne_true) | exact ⟨_, rfl, _, 0, rfl, rfl, q⟩
    · rw [show false = isC v by cases v <;> first | rfl | (exact absurd rfl e)]
      exact q
def sp_is_within : Sp := fun vs H Q _ => ∃ i lo hi : Int, vs = [.int i, .int lo, .int hi] ∧ Q (.bl (decide (lo ≤ i) && decide (i ≤ hi))) H
theorem c_is_within (T : Txt K mg C CO) : C8.Cal P w K mg base 2 "is_within" sp_is_within [] := by
  refine calF T.d_is_within sc_is_within (fun vs H Q E h => ?_) (fun f cdv A outer s H vs Q E hr h => ?_)
  · obtain ⟨i, lo, hi, rfl, _⟩ := h; rfl
  · obtain ⟨i, lo, hi, rfl, q⟩ := h
    refine ⟨_, (pss_one (ps_ret (pe_and (C8.pe_c (c_is_whole T) hr (by decide) (by rfl) (pa_cons (pv 0) pa_nil)) (pe_one (pe_chain op_le op_le (pv 1) (pv 0) (pv 2)))))), ?_⟩
    refine ⟨.int i, rfl, .int i, rfl, .int i, _, rfl, iteT ?_⟩
    refine ⟨_, rfl, _, rfl, lo, i, rfl, rfl, _, rfl, ite2 (fun e => ?_) (fun e => ?_)⟩
    · refine ⟨_, rfl, i, hi, rfl, rfl, ?_⟩
      rw [e, Bool.true_and] at q
      exact q
    · rw [Bool.not_eq_true] at e
      rw [e, Bool.false_and] at q
      exact q
def sp_need_within : Sp := fun vs H Q _ => ∃ i lo hi : Int, vs = [.int i, .int lo, .int hi] ∧ lo ≤ i ∧ i ≤ hi ∧ Q .non H
theorem c_need_within (T : Txt K mg C CO) : C8.Cal P w K mg base 3 "need_within" sp_need_within [] := by
  refine calF T.d_need_within sc_need_within (fun vs H Q E h => ?_) (fun f cdv A outer s H vs Q E hr h => ?_)
  · obtain ⟨i, lo, hi, rfl, _⟩ := h; rfl
  · obtain ⟨i, lo, hi, rfl, h1, h2, q⟩ := h
    refine ⟨_, (pss_one (ps_if (pt_not (pt_val (C8.pe_c (c_is_within T) hr (by decide) (by rfl) (pa_cons (pv 0) (pa_cons (pv 1) (pa_cons (pv 2) pa_nil))))))
    (pss_one ps_never)
    pss_nil)), ?_⟩
    refine ⟨_, rfl, _, rfl, _, rfl, i, lo, hi, rfl, _, rfl, ?_⟩
    rw [decide_eq_true h1, decide_eq_true h2]
    exact iteF q
theorem len_line {w : List Nat} (h : w.length ≤ 1000) : (S w).length ≤ sizeLine := by rw [S_len, sizeLine_eq]; omega
def sp_is_lettered : Sp := fun vs H Q _ => ∃ (z : List Nat) (m : Int), vs = [.str (S z), .int m] ∧ z.length ≤ 1000 ∧ (z.length : Int) ≤ m ∧ Low z ∧ Q (.bl true) H
theorem S_nil {z : List Nat} (h : (S z : Str) = "") : z = [] := by
  have := congrArg Str.length h
  rw [S_len] at this
  exact List.length_eq_zero_iff.mp this
theorem c_is_lettered (T : Txt K mg C CO) : C8.Cal P w K mg base 1 "is_lettered" sp_is_lettered [] := by
  refine calF T.d_is_lettered sc_is_lettered (fun vs H Q E h => ?_) (fun f cdv A outer s H vs Q E hr h => ?_)
  · obtain ⟨_, _, rfl, _⟩ := h; rfl
  · obtain ⟨z, m, rfl, hl, hm, lw, q⟩ := h
    refine ⟨_, (pss_cons (ps_if (PW.pt (pw_or (pt_not (pt_val (pe_callB call_isK (by rfl) T.m_isinstance (by decide +kernel) (pa_cons (pv 0) (pa_cons (pe_bltn (v := .ty "str") (by rfl) T.m_str (by decide +kernel) rfl) pa_nil))))) (pw_or1 (pt_cmpR op_gt (pe_callB call_len_str (by rfl) T.m_len (by decide +kernel) (pa_cons (pv 0) pa_nil)) (pv 1) (nomark _)))))
    (pss_one (ps_ret pe_bl))
    pss_nil)
    (pss_one (ps_ret (pe_or (pe_cmpR op_eq (pv 0) pe_str (nomark _)) (pe_one (pe_and (pe_m0 PySem.F.slot_str_isascii PySem.F.type_str_isascii mt_isascii (pv 0)) (pe_and (pe_m0 PySem.F.slot_str_isalpha PySem.F.type_str_isalpha mt_isalpha (pv 0)) (pe_one (pe_m0 PySem.F.slot_str_islower PySem.F.type_str_islower mt_islower (pv 0)))))))))), ?_⟩
    refine ⟨_, rfl, .str (S z), "str", true, rfl, .str _, by show kitB "str" "str" = some true; decide +kernel, _, rfl, iteF ?_⟩
    refine ⟨_, rfl, S z, rfl, len_line hl, _, rfl, _, m, rfl, rfl, _, rfl, ?_⟩
    rw [S_len, decide_eq_false (by omega)]
    refine iteF ⟨_, rfl, rfl, _, rfl, ite2 (fun e => q) fun e => ?_⟩
    have ne : z ≠ [] := fun y => e (by rw [y]; decide +kernel)
    refine ⟨_, rfl, ⟨_, rfl⟩, _, rfl, rfl, trivial, _, rfl, ?_⟩
    rw [low_ascii lw]
    refine iteT ⟨_, rfl, ⟨_, rfl⟩, _, rfl, rfl, trivial, _, rfl, ?_⟩
    rw [low_alpha lw ne]
    refine iteT ⟨_, rfl, ⟨_, rfl⟩, _, rfl, rfl, trivial, ?_⟩
    rw [low_lower lw ne]
    exact q
end
end K39K

set_option Elab.async false
set_option linter.all false
set_option maxRecDepth 100000
set_option maxHeartbeats 2000000
namespace K39K
open K39 PySem PySem.Spec PyProof.Rows L2 CK SX KM
/-! ### pieces in the heap -/
inductive Pcs (H : Hp) : List V → List Pc → Prop
  | nil : Pcs H [] []
  | cons {a : Addr} {vs : List V} {p : Pc} {ps : List Pc} : H a = some (.tup [.str (S p.1), .int p.2]) → Pcs H vs ps → Pcs H (.ref a :: vs) (p :: ps)
theorem Pcs.mono {H H' : Hp} {vs : List V} {ps : List Pc} (h : Pcs H vs ps) (s : ∀ a xs, H a = some (.tup xs) → H' a = some (.tup xs)) : Pcs H' vs ps := by
  induction h with
  | nil => exact .nil
  | cons e _ ih => exact .cons (s _ _ e) ih
theorem Pcs.same {H H' : Hp} {vs : List V} {ps : List Pc} (h : Pcs H vs ps) (s : Same H H') : Pcs H' vs ps := h.mono fun a xs e => s _ _ e
theorem Pcs.upd {H : Hp} {vs : List V} {ps : List Pc} {l : Addr} {xs ys : List V} (h : Pcs H vs ps) (hl : H l = some (.lst xs)) : Pcs (upd H l (.lst ys)) vs ps :=
  h.mono fun a zs e => by
    rw [upd_ne (fun z => by rw [z, hl] at e; cases e)]
    exact e
theorem Pcs.len {H : Hp} {vs : List V} {ps : List Pc} (h : Pcs H vs ps) : vs.length = ps.length := by
  induction h with
  | nil => rfl
  | cons _ _ ih => simp [ih]
theorem Pcs.app {H : Hp} {vs us : List V} {ps qs : List Pc} (h : Pcs H vs ps) (g : Pcs H us qs) : Pcs H (vs ++ us) (ps ++ qs) := by
  induction h with
  | nil => exact g
  | cons e _ ih => exact .cons e ih
theorem Pcs.get {H : Hp} {vs : List V} {ps : List Pc} (h : Pcs H vs ps) {i : Nat} {v : V} (hi : vs[i]? = some v) : ∃ a p, v = .ref a ∧ ps[i]? = some p ∧ H a = some (.tup [.str (S p.1), .int p.2]) := by
  induction h generalizing i with
  | nil => simp at hi
  | cons e _ ih =>
    cases i with
    | zero =>
      cases hi
      exact ⟨_, _, rfl, rfl, e⟩
    | succ i => exact ih hi
theorem Pcs.at {H : Hp} {vs : List V} {ps : List Pc} (h : Pcs H vs ps) {i : Nat} {p : Pc} (hi : ps[i]? = some p) : ∃ a, vs[i]? = some (.ref a) ∧ H a = some (.tup [.str (S p.1), .int p.2]) := by
  induction h generalizing i with
  | nil => simp at hi
  | cons e _ ih =>
    cases i with
    | zero =>
      cases hi
      exact ⟨_, rfl, e⟩
    | succ i => exact ih hi
theorem Pcs.init {H : Hp} {vs : List V} {ps : List Pc} (h : Pcs H vs ps) : Pcs H vs.dropLast ps.dropLast := by
  induction h with
  | nil => exact .nil
  | cons e h ih =>
    cases h with
    | nil => exact .nil
    | cons e2 h2 => exact .cons e ih
theorem Pcs.one {H : Hp} {a : Addr} {p : Pc} (e : H a = some (.tup [.str (S p.1), .int p.2])) : Pcs H [.ref a] [p] := .cons e .nil
/-- a list of pieces -/
def PL (H : Hp) (l : Addr) (ps : List Pc) : Prop := ∃ vs, H l = some (.lst vs) ∧ Pcs H vs ps
theorem PL.same {H H' : Hp} {l : Addr} {ps : List Pc} (h : PL H l ps) (s : Same H H') : PL H' l ps := by
  obtain ⟨vs, e, p⟩ := h
  exact ⟨vs, s _ _ e, p.same s⟩
/-- pieces as the law has them: few, short, of small letters, their numbers not too great -/
structure OK (n : Nat) (ps : List Pc) : Prop where
  len : ps.length ≤ n
  word : ∀ p ∈ ps, p.1.length ≤ 1000 ∧ Low p.1
  num : (ps.map (·.2)).sum ≤ n * 2 ^ 200
  lets : (ps.map (·.1.length)).sum ≤ n * 10
theorem OK.le {n m : Nat} {ps : List Pc} (h : OK n ps) (hm : n ≤ m) : OK m ps := ⟨by have := h.len; omega, h.word, Nat.le_trans h.num (Nat.mul_le_mul_right _ hm), Nat.le_trans h.lets (Nat.mul_le_mul_right _ hm)⟩
theorem le_sum {x : Nat} : ∀ {l : List Nat}, x ∈ l → x ≤ l.sum
  | [], h => by simp at h
  | a :: l, h => by
    rw [List.sum_cons]
    rcases List.mem_cons.mp h with z | z
    · omega
    · have := le_sum z
      omega
theorem OK.times {n : Nat} {ps : List Pc} (h : OK n ps) (hn : n ≤ 1000) {p : Pc} (hp : p ∈ ps) : p.2 < 2 ^ 300 := by
  have h1 : p.2 ≤ (ps.map (·.2)).sum := le_sum (List.mem_map.mpr ⟨p, hp, rfl⟩)
  have h2 : n * 2 ^ 200 ≤ 1000 * 2 ^ 200 := Nat.mul_le_mul_right _ hn
  have h3 := h.num
  omega
theorem OK.app {n m : Nat} {a b : List Pc} (h : OK n a) (g : OK m b) : OK (n + m) (a ++ b) := by
  refine ⟨by rw [List.length_append]; have := h.len; have := g.len; omega, fun p hp => ?_, ?_, ?_⟩
  · rcases List.mem_append.mp hp with z | z
    · exact h.word p z
    · exact g.word p z
  · rw [List.map_append, List.sum_append, Nat.add_mul]
    exact Nat.add_le_add h.num g.num
  · rw [List.map_append, List.sum_append, Nat.add_mul]
    exact Nat.add_le_add h.lets g.lets
theorem OK.nil {n : Nat} : OK n [] := ⟨Nat.zero_le _, fun p hp => absurd hp List.not_mem_nil, Nat.zero_le _, Nat.zero_le _⟩
theorem sum_init {l : List Pc} {q : Pc} (h : l.getLast? = some q) : (l.map (·.2)).sum = (l.dropLast.map (·.2)).sum + q.2 := by
  conv => lhs; rw [last_split h]
  simp
theorem sum_initL {l : List Pc} {q : Pc} (h : l.getLast? = some q) : (l.map (·.1.length)).sum = (l.dropLast.map (·.1.length)).sum + q.1.length := by
  conv => lhs; rw [last_split h]
  simp
theorem OK.step {n : Nat} {acc : List Pc} (h : OK n acc) {p : Pc} (hw : p.1.length ≤ 1000 ∧ Low p.1) : (stepT acc p).length ≤ acc.length + 1 ∧ (∀ q ∈ stepT acc p, q.1.length ≤ 1000 ∧ Low q.1) ∧ ((stepT acc p).map (·.2)).sum ≤ (acc.map (·.2)).sum + p.2 ∧ ((stepT acc p).map (·.1.length)).sum ≤ (acc.map (·.1.length)).sum + p.1.length := by
  unfold stepT
  split
  · exact ⟨by omega, h.word, by omega, by omega⟩
  · have app : (acc ++ [p]).length ≤ acc.length + 1 ∧ (∀ q ∈ acc ++ [p], q.1.length ≤ 1000 ∧ Low q.1) ∧ ((acc ++ [p]).map (·.2)).sum ≤ (acc.map (·.2)).sum + p.2 ∧ ((acc ++ [p]).map (·.1.length)).sum ≤ (acc.map (·.1.length)).sum + p.1.length := by
      refine ⟨by simp, fun q hq => ?_, by simp, by simp⟩
      rcases List.mem_append.mp hq with z | z
      · exact h.word q z
      · rw [List.mem_singleton.mp z]
        exact hw
    split
    · next q hq =>
      split
      · next e =>
        refine ⟨by simp <;> omega, fun r hr => ?_, ?_, ?_⟩
        · rcases List.mem_append.mp hr with z | z
          · exact h.word r (List.dropLast_subset _ z)
          · rw [List.mem_singleton.mp z]
            exact hw
        · rw [sum_init hq]
          simp
          omega
        · rw [sum_initL hq, e]
          simp
      · exact app
    · exact app
theorem OK.fold : ∀ (ps : List Pc) {n m : Nat} {acc : List Pc}, OK n acc → OK m ps → OK (n + m) (ps.foldl stepT acc) := by
  intro ps n m acc ha hp
  suffices h : ∀ (ps acc : List Pc), (∀ q ∈ acc, q.1.length ≤ 1000 ∧ Low q.1) → (∀ q ∈ ps, q.1.length ≤ 1000 ∧ Low q.1) →
      (ps.foldl stepT acc).length ≤ acc.length + ps.length ∧ (∀ q ∈ ps.foldl stepT acc, q.1.length ≤ 1000 ∧ Low q.1) ∧ ((ps.foldl stepT acc).map (·.2)).sum ≤ (acc.map (·.2)).sum + (ps.map (·.2)).sum ∧ ((ps.foldl stepT acc).map (·.1.length)).sum ≤ (acc.map (·.1.length)).sum + (ps.map (·.1.length)).sum by
    obtain ⟨h1, h2, h3, h4⟩ := h ps acc ha.word hp.word
    refine ⟨by have := ha.len; have := hp.len; omega, h2, ?_, ?_⟩
    · have := ha.num
      have := hp.num
      rw [Nat.add_mul]
      omega
    · have := ha.lets
      have := hp.lets
      rw [Nat.add_mul]
      omega
  intro ps
  induction ps with
  | nil => exact fun acc h1 _ => ⟨by simp, h1, by simp, by simp⟩
  | cons p r ih =>
    intro acc h1 h2
    have hO : OK (acc.length + (acc.map (·.2)).sum + (acc.map (·.1.length)).sum) acc := ⟨by omega, h1, by
      have : 0 < 2 ^ 200 := Nat.two_pow_pos _
      have := Nat.le_mul_of_pos_right (acc.length + (acc.map (·.2)).sum + (acc.map (·.1.length)).sum) this
      omega, by omega⟩
    obtain ⟨a, b, c, c2⟩ := hO.step (h2 p List.mem_cons_self)
    obtain ⟨d, e, f, f2⟩ := ih (stepT acc p) b fun q hq => h2 q (List.mem_cons_of_mem _ hq)
    rw [List.foldl_cons]
    refine ⟨by simp; omega, e, ?_, ?_⟩
    · simp
      omega
    · simp
      omega
theorem OK.tidy {n : Nat} {ps : List Pc} (h : OK n ps) : OK n (tidy ps) := by
  have := OK.fold ps (OK.nil (n := 0)) h
  rw [Nat.zero_add] at this
  exact this
section
variable {P : Program} {w : World} {K : PySem.W.Frag} {mg : Str → Option Value} {base : Heap} {C CO : Addr}
def sp_is_kept_piece : Sp := fun vs H Q _ => ∃ (a : Addr) (p : Pc), vs = [.ref a] ∧ H a = some (.tup [.str (S p.1), .int p.2]) ∧ p.1.length ≤ 1000 ∧ Low p.1 ∧ Q (.bl true) H
theorem c_is_kept_piece (T : Txt K mg C CO) : C8.Cal P w K mg base 3 "is_kept_piece" sp_is_kept_piece [] := by
  refine calF T.d_is_kept_piece sc_is_kept_piece (fun vs H Q E h => ?_) (fun f cdv A outer s H vs Q E hr h => ?_)
  · obtain ⟨_, _, rfl, _⟩ := h; rfl
  · obtain ⟨a, p, rfl, ha, hl, lw, q⟩ := h
    have kn : Kn H (.ref a) := .tup ha
    refine ⟨_, (pss_cons (ps_if (PW.pt (pw_or (pt_not (pt_val (pe_callB call_isK (by rfl) T.m_isinstance (by decide +kernel) (pa_cons (pv 0) (pa_cons (pe_bltn (v := .ty "tuple") (by rfl) T.m_tuple (by decide +kernel) rfl) pa_nil))))) (pw_or1 (pt_cmpR op_ne (pe_callB call_len_seq (by rfl) T.m_len (by decide +kernel) (pa_cons (pv 0) pa_nil)) pe_int (nomark _)))))
    (pss_one (ps_ret pe_bl))
    pss_nil)
    (pss_one (ps_ret (pe_and (C8.pe_c (c_is_lettered T) hr (by decide) (by rfl) (pa_cons (pe_ix ix_tup (pv 0) pe_int (fun _ _ => rfl)) (pa_cons (C8.pe_gc (by rfl) T.k_MOST_KEPT_WORD) pa_nil))) (pe_one (C8.pe_c (c_is_count T) hr (by decide) (by rfl) (pa_cons (pe_ix ix_tup (pv 0) pe_int (fun _ _ => rfl)) pa_nil))))))), ?_⟩
    refine ⟨_, rfl, .ref a, "tuple", _, rfl, kn, kit_tuple kn, _, rfl, ?_⟩
    rw [isTu_tup ha]
    refine iteF ⟨_, rfl, a, _, rfl, .inr (.inl (.inl ha)), rfl, _, rfl, iteF ?_⟩
    refine ⟨_, rfl, a, _, 0, _, rfl, rfl, .inl (.inl ha), atI_nat (j := 0) rfl, p.1, 2000, rfl, hl, by omega, lw, _, rfl, iteT ?_⟩
    refine ⟨_, rfl, a, _, 1, _, rfl, rfl, .inl (.inl ha), atI_nat (j := 1) rfl, .int p.2, rfl, .int _, ?_⟩
    rw [show isC (.int p.2) = true from decide_eq_true (show (0 : Int) ≤ (p.2 : Int) by omega)]
    exact q
def sp_need_kept_pieces : Sp := fun vs H Q _ => ∃ (l : Addr) (ps : List Pc) (n : Nat), vs = [.ref l] ∧ PL H l ps ∧ OK n ps ∧ n ≤ 1000 ∧ ∀ H', Same H H' → Q .non H'
theorem sum_len (ps : List Pc) : (ps.map fun p => (p.1.length : Int)).sum = (((ps.map (·.1.length)).sum : Nat) : Int) := by
  induction ps with
  | nil => rfl
  | cons p r ih => rw [List.map_cons, List.sum_cons, ih, List.map_cons, List.sum_cons, Int.natCast_add]
def lenV : V → V := fun _ => .non
theorem c_need_kept_pieces (T : Txt K mg C CO) : C8.Cal P w K mg base 4 "need_kept_pieces" sp_need_kept_pieces [] := by
  refine calF T.d_need_kept_pieces sc_need_kept_pieces (fun vs H Q E h => ?_) (fun f cdv A outer s H vs Q E hr h => ?_)
  · obtain ⟨_, _, _, rfl, _⟩ := h; rfl
  · obtain ⟨l, ps, n, rfl, ⟨vs, hl, hp⟩, ok, hn, q⟩ := h
    have kn : Kn H (.ref l) := .lst hl
    have len := hp.len
    have okl := ok.len
    refine ⟨_, (pss_cons (ps_if (PW.pt (pw_or (pt_not (pt_val (pe_callB call_isK (by rfl) T.m_isinstance (by decide +kernel) (pa_cons (pv 0) (pa_cons (pe_bltn (v := .ty "list") (by rfl) T.m_list (by decide +kernel) rfl) pa_nil))))) (pw_or1 (pt_cmpR op_gt (pe_callB call_len_seq (by rfl) T.m_len (by decide +kernel) (pa_cons (pv 0) pa_nil)) (C8.pe_gc (by rfl) T.k_MOST_KEPT_PIECES) (nomark _)))))
    (pss_one ps_never)
    pss_nil)
    (pss_cons (ps_for PassesOwn.never rfl (pi_list (pv 0)) (pg_name (i := 1) sc_need_kept_pieces.nd rfl (Or.inl rfl))
    (pss_one (ps_if (pt_not (pt_val (C8.pe_c (c_is_kept_piece T) hr (by decide) (by rfl) (pa_cons (pv 1) pa_nil))))
    (pss_one ps_never)
    pss_nil)))
    (pss_cons (ps_set (i := 2) sc_need_kept_pieces.nd rfl (Or.inl rfl) (pe_callB (cr_sum rfl) (by rfl) T.m_sum (by decide +kernel) (pa_cons (pe_lc (own := [("word", 3), ("_", 4)]) (by rfl) sc_need_kept_pieces.nd (pi_list (pv 0)) (blkOk_by (N := ["value", "item", "many", "word", "_"]) (sc := C8.fnScope (topS 42)) (own := [("word", 3), ("_", 4)]) (by decide +kernel)) (fun _ _ _ _ _ => (pg_two (K := K) (i := 3) (j := 4) rfl rfl sc_need_kept_pieces.nd rfl rfl (Or.inl rfl) (Or.inl rfl))) (fun _ _ _ _ _ => pts_nil) (fun _ _ _ _ _ => (pe_callB call_len_str (by rfl) T.m_len (by decide +kernel) (pa_cons (pv 3) pa_nil)))) pa_nil)))
    (pss_one (ps_if (pt_cmpR op_gt (pv 2) (C8.pe_gc (by rfl) T.k_MOST_KEPT_LETTERS) (nomark _))
    (pss_one ps_never)
    pss_nil))))), ?_⟩
    refine ⟨_, rfl, .ref l, "list", _, rfl, kn, kit_list kn, _, rfl, ?_⟩
    rw [isLi_lst hl]
    refine iteF ⟨_, rfl, l, vs, rfl, .inl (.inl (.inl hl)), _, 5000, rfl, rfl, _, rfl, ?_⟩
    rw [decide_eq_false (by omega)]
    refine iteF ?_
    refine ⟨_, rfl, l, rfl, ⟨_, .inl (.inl hl)⟩, for_list (K := K) (a := l) (xs := vs) (fun i σ H' => H' = H ∧ ∃ y1, σ = [some (.ref l), y1, none, none, none]) ⟨rfl, none, rfl⟩ (fun i σ H' _ p => by rw [p.1]; exact .inl (.inl hl)) (fun i y σ H' hi p => ?_) (fun σ H' p => ?_)⟩
    · obtain ⟨rfl, y1, rfl⟩ := p
      obtain ⟨a, p, rfl, hpi, ha⟩ := hp.get hi
      have hw := ok.word p (List.mem_of_getElem? hpi)
      exact ⟨_, rfl, a, p, rfl, ha, by omega, hw.2, _, rfl, iteF ⟨rfl, _, rfl⟩⟩
    · obtain ⟨rfl, y1, rfl⟩ := p
      refine ⟨_, rfl, l, rfl, ⟨_, .inl (.inl hl)⟩, fun D hD => ?_⟩
      have hDl : D ≠ l := fun z => by rw [z, hl] at hD; cases hD
      refine lc_list (K := K) (a := l) (xs := vs) (fun i H1 => Same H' H1 ∧ H1 D = some (.lst ((ps.take i).map fun p => V.int p.1.length))) ⟨sameNew hD, by rw [upd_same]; rfl⟩ (fun i H1 _ p => .inl (.inl (p.1 _ _ hl))) (fun i y H1 hi p => ?_) fun H1 p => ?_
      · obtain ⟨s1, hD1⟩ := p
        obtain ⟨a, p, rfl, hpi, ha⟩ := hp.get hi
        have hw := ok.word p (List.mem_of_getElem? hpi)
        have hii := (List.getElem?_eq_some_iff.mp hpi).1
        refine ⟨a, _, rfl, .inl (.inl (s1 _ _ ha)), rfl, _, _, rfl, _, _, rfl, rfl, rfl, ?_⟩
        refine ⟨_, rfl, S p.1, rfl, len_line (by omega), _, hD1, ?_, same_upd2 hD s1, ?_⟩
        · rw [List.length_map, List.length_take, sizeLine_eq]
          omega
        · rw [upd_same, List.take_succ, hpi, S_len]
          simp
      · obtain ⟨s1, hD1⟩ := p
        rw [len, List.take_length] at hD1
        refine ⟨D, ps.map fun p => (p.1.length : Int), rfl, .inl (.inl (by rw [hD1, List.map_map]; rfl)), ?_⟩
        have := sum_len ps
        have := ok.lets
        refine ⟨_, rfl, _, 10000, rfl, rfl, _, rfl, ?_⟩
        rw [decide_eq_false (by omega)]
        exact iteF (q _ s1)
end
end K39K

set_option Elab.async false
set_option linter.all false
set_option maxRecDepth 100000
set_option maxHeartbeats 2000000
namespace K39K
open K39 PySem PySem.Spec PyProof.Rows L2 CK SX KM
theorem step_len (acc : List Pc) (p : Pc) : (stepT acc p).length ≤ acc.length + 1 := by
  unfold stepT
  split
  · omega
  · split
    · split
      · simp <;> omega
      · simp
    · simp
theorem fold_len : ∀ (ps acc : List Pc), (ps.foldl stepT acc).length ≤ acc.length + ps.length
  | [], acc => by simp
  | p :: r, acc => by
    rw [List.foldl_cons]
    have := fold_len r (stepT acc p)
    have := step_len acc p
    rw [List.length_cons]
    omega
theorem app_end {H H2 : Hp} {r t : Addr} {ws : List V} {acc : List Pc} {p : Pc} (s : Same H H2) (hr : H r = none) (h2 : H2 r = some (.lst ws)) (hp : Pcs H2 ws acc) (ht : H2 t = none) :
    Same H (upd (upd H2 t (.tup [.str (S p.1), .int p.2])) r (.lst (ws ++ [.ref t]))) ∧ PL (upd (upd H2 t (.tup [.str (S p.1), .int p.2])) r (.lst (ws ++ [.ref t]))) r (acc ++ [p]) := by
  have rt : r ≠ t := fun z => by rw [z, ht] at h2; cases h2
  have st : Same H2 (upd H2 t (.tup [.str (S p.1), .int p.2])) := sameNew ht
  have h3 : upd H2 t (.tup [.str (S p.1), .int p.2]) r = some (.lst ws) := st _ _ h2
  refine ⟨same_upd2 hr (s.trans st), _, upd_same, ((hp.same st).upd h3).app (.one ?_)⟩
  rw [upd_ne (Ne.symm rt), upd_same]
theorem take_step {ps : List Pc} {i : Nat} {p : Pc} (h : ps[i]? = some p) : (ps.take (i + 1)).foldl stepT [] = stepT ((ps.take i).foldl stepT []) p := by
  rw [List.take_succ, h]
  simp
theorem last_at {vs : List V} {v : V} (h : vs[vs.length - 1]? = some v) : atI vs (-1) = some v := by
  have hl := (List.getElem?_eq_some_iff.mp h).1
  have e : vs = vs.dropLast ++ [v] := by
    apply last_split
    rw [List.getLast?_eq_getElem?]
    exact h
  rw [e]
  exact atI_last _ _
section
variable {P : Program} {w : World} {K : PySem.W.Frag} {mg : Str → Option Value} {base : Heap} {C CO : Addr}
def sp_put_together : Sp := fun vs H Q _ => ∃ (l : Addr) (ps : List Pc), vs = [.ref l] ∧ PL H l ps ∧ ps.length ≤ 2000 ∧ (∀ p ∈ ps, p.1.length ≤ 1000) ∧ ∀ r H', Same H H' → H r = none → PL H' r (tidy ps) → Q (.ref r) H'
theorem c_put_together (T : Txt K mg C CO) : C8.Cal P w K mg base 1 "put_together" sp_put_together [] := by
  refine calF T.d_put_together sc_put_together (fun vs H Q E h => ?_) (fun f cdv A outer s H vs Q E hr h => ?_)
  · obtain ⟨_, _, rfl, _⟩ := h; rfl
  · obtain ⟨l, ps, rfl, ⟨vs, hl, hp⟩, len, hw, q⟩ := h
    have lv := hp.len
    refine ⟨_, (pss_cons (ps_set (i := 1) sc_put_together.nd rfl (Or.inl rfl) (pe_lst pa_nil))
    (pss_cons (ps_for PassesOwn.never rfl (pi_list (pv 0)) (pg_two (K := K) (i := 2) (j := 3) rfl rfl sc_put_together.nd rfl rfl (Or.inl rfl) (Or.inl rfl))
    (pss_cons (ps_if (PW.pt (pw_or (pt_not (pt_truth (pv 2) (by intro _; rfl))) (pw_or1 (pt_not (pt_truth (pv 3) (by intro _; rfl))))))
    (pss_one ps_continue)
    pss_nil)
    (pss_cons (ps_if (PW.pt (pw_and (pt_truth (pv 1) (by intro _; rfl)) (pw_and1 (pt_cmpR op_eq (pe_ix ix_tup (pe_ix ix_list (pv 1) (pe_un un_neg pe_int) (fun _ _ => rfl)) pe_int (fun _ _ => rfl)) (pv 2) (nomark _)))))
    (pss_one (ps_aug (i := 3) sc_put_together.nd rfl (.inl rfl) (pe_ix ix_tup (pe_bm0 PySem.F.plainAttrs_list PySem.F.slot_list_pop PySem.F.type_list_pop mt_pop (pv 1)) pe_int (fun _ _ => rfl)) ip_add))
    pss_nil)
    (pss_one (ps_expr (pe_bm PySem.F.plainAttrs_list PySem.F.slot_list_append PySem.F.type_list_append mt_append (pv 1) (pa_cons (pe_tup (pa_cons (pv 2) (pa_cons (pv 3) pa_nil))) pa_nil)))))))
    (pss_one (ps_ret (pv 1))))), ?_⟩
    refine ⟨by show 0 ≤ sizeLine; omega, fun r hr0 => ?_⟩
    have rl : r ≠ l := fun z => by rw [z, hl] at hr0; cases hr0
    refine ⟨_, rfl, l, rfl, ⟨_, .inl (.inl (sameNew hr0 _ _ hl))⟩, for_list (K := K) (a := l) (xs := vs) (fun i σ H' => Same H H' ∧ (∃ y2 y3, σ = [some (.ref l), some (.ref r), y2, y3]) ∧ PL H' r ((ps.take i).foldl stepT []))
      ⟨sameNew hr0, ⟨none, none, rfl⟩, [], upd_same, .nil⟩ (fun i σ H' _ p => .inl (.inl (p.1 _ _ hl))) (fun i y σ H' hi p => ?_) (fun σ H' p => ?_)⟩
    · obtain ⟨s1, ⟨y2, y3, rfl⟩, ws, hws, pw⟩ := p
      obtain ⟨a, p, rfl, hpi, ha⟩ := hp.get hi
      have hwp := hw p (List.mem_of_getElem? hpi)
      have hii := (List.getElem?_eq_some_iff.mp hpi).1
      have lacc := fold_len (ps.take i) []
      have lw := pw.len
      rw [List.length_take] at lacc
      have acc1000 : ws.length < sizeLine := by rw [sizeLine_eq]; simp at lacc; omega
      rw [show ((ps.take (i + 1)).foldl stepT [] : List Pc) = stepT ((ps.take i).foldl stepT []) p from take_step hpi]
      generalize hacc : (ps.take i).foldl stepT [] = acc at pw lw lacc
      refine ⟨a, _, rfl, .inl (.inl (s1 _ _ ha)), rfl, _, _, rfl, _, _, rfl, rfl, ?_⟩
      by_cases w0 : p.1 = []
      · have e : stepT acc p = acc := by unfold stepT; rw [if_pos (.inl w0)]
        refine ⟨_, rfl, false, ⟨len_line hwp, by rw [w0]; rfl⟩, iteT (iteT ?_)⟩
        exact ⟨s1, ⟨_, _, rfl⟩, by rw [e]; exact ⟨ws, hws, pw⟩⟩
      · have n0 := List.length_pos_iff.mpr w0
        refine ⟨_, rfl, true, ⟨len_line hwp, by rw [S_len]; symm; rw [bne_iff_ne]; omega⟩, iteF ?_⟩
        by_cases t0 : p.2 = 0
        · have e : stepT acc p = acc := by unfold stepT; rw [if_pos (.inr t0)]
          refine ⟨_, rfl, false, by rw [t0]; rfl, iteT ?_⟩
          exact ⟨s1, ⟨_, _, rfl⟩, by rw [e]; exact ⟨ws, hws, pw⟩⟩
        · refine ⟨_, rfl, true, by show true = ((p.2 : Int) != 0); symm; rw [bne_iff_ne]; omega, iteF ?_⟩
          have np : ¬ (p.1 = [] ∨ p.2 = 0) := fun z => z.elim w0 t0
          cases hlast : ws.getLast? with
          | none =>
            have we : ws = [] := List.getLast?_eq_none_iff.mp hlast
            subst we
            cases pw
            have e : stepT [] p = [] ++ [p] := by unfold stepT; rw [if_neg np]; rfl
            refine ⟨_, rfl, false, .inl ⟨_, .inl (.inl hws), rfl⟩, iteF ?_⟩
            refine ⟨_, rfl, .inl ⟨rfl, _, .inl (.inl hws)⟩, _, rfl, _, rfl, by show 2 ≤ sizeLine; decide, fun t ht => ⟨r, _, _, rfl, rfl, sameNew ht _ _ hws, acc1000, ?_⟩⟩
            have := app_end s1 hr0 hws .nil ht (p := p)
            exact ⟨this.1, ⟨_, _, rfl⟩, by rw [e]; exact this.2⟩
          | some v =>
            have hv : ws[ws.length - 1]? = some v := by rw [← List.getLast?_eq_getElem?]; exact hlast
            have wne : ws ≠ [] := fun z => by rw [z] at hlast; cases hlast
            obtain ⟨b, q', rfl, hq, hb⟩ := pw.get hv
            have hq' : acc.getLast? = some q' := by rw [List.getLast?_eq_getElem?, ← lw]; exact hq
            refine ⟨_, rfl, true, .inl ⟨_, .inl (.inl hws), by cases ws with | nil => exact absurd rfl wne | cons _ _ => rfl⟩, iteT ?_⟩
            refine ⟨_, rfl, 1, rfl, r, _, -1, _, rfl, rfl, .inl (.inl hws), last_at hv, b, _, 0, _, rfl, rfl, .inl (.inl hb), atI_nat (j := 0) rfl, _, rfl, rfl, _, rfl, ite2 (fun e => ?_) (fun e => ?_)⟩
            · have e1 : q'.1 = p.1 := S_inj (V.str.inj (of_decide_eq_true e))
              have es : stepT acc p = acc.dropLast ++ [(p.1, p.2 + q'.2)] := by unfold stepT; rw [if_neg np, hq']; simp [e1]
              have hb2 : upd H' r (.lst ws.dropLast) b = some (.tup [.str (S q'.1), .int q'.2]) := by
                rw [upd_ne (fun z => by rw [z, hws] at hb; cases hb)]
                exact hb
              refine ⟨_, rfl, _, rfl, .inl ⟨rfl, _, .inl (.inl hws)⟩, r, _, _, rfl, rfl, hws, hv, b, _, 1, _, rfl, rfl, .inl (.inl hb2), atI_nat (j := 1) rfl, _, _, rfl, rfl, ?_⟩
              have s2 : Same H (upd H' r (.lst ws.dropLast)) := same_upd2 hr0 s1
              have h2 : upd H' r (.lst ws.dropLast) r = some (.lst ws.dropLast) := upd_same
              refine ⟨_, rfl, .inl ⟨rfl, _, .inl (.inl h2)⟩, _, rfl, _, rfl, by show 2 ≤ sizeLine; decide, fun t ht => ⟨r, _, _, rfl, rfl, sameNew ht _ _ h2, by rw [List.length_dropLast]; omega, ?_⟩⟩
              have := app_end s2 hr0 h2 (pw.init.upd hws) ht (p := (p.1, p.2 + q'.2))
              exact ⟨this.1, ⟨_, _, rfl⟩, by rw [es]; exact this.2⟩
            · have e1 : ¬ q'.1 = p.1 := fun z => e (by rw [z]; exact decide_eq_true rfl)
              have es : stepT acc p = acc ++ [p] := by unfold stepT; rw [if_neg np, hq']; simp [e1]
              refine ⟨_, rfl, .inl ⟨rfl, _, .inl (.inl hws)⟩, _, rfl, _, rfl, by show 2 ≤ sizeLine; decide, fun t ht => ⟨r, _, _, rfl, rfl, sameNew ht _ _ hws, acc1000, ?_⟩⟩
              have := app_end s1 hr0 hws pw ht (p := p)
              exact ⟨this.1, ⟨_, _, rfl⟩, by rw [es]; exact this.2⟩
    · obtain ⟨s1, ⟨y2, y3, rfl⟩, h⟩ := p
      rw [lv, List.take_length] at h
      exact ⟨_, rfl, q r H' s1 hr0 h⟩
/-! ends -/
theorem endsF_take {ps : List Pc} {i : Nat} {p : Pc} (h : ps[i]? = some p) : endsF 0 (ps.take (i + 1)) = endsF 0 (ps.take i) ++ [long (ps.take i) + plen p] ∧ long (ps.take (i + 1)) = long (ps.take i) + plen p := by
  have e : ps.take (i + 1) = ps.take i ++ [p] := by rw [List.take_succ, h]; rfl
  rw [e, endsF_app]
  simp [endsF, long]
def sp_ends_of : Sp := fun vs H Q _ => ∃ (l : Addr) (ps : List Pc) (n : Nat), vs = [.ref l] ∧ PL H l ps ∧ OK n ps ∧ n ≤ 1000 ∧ ∀ r H', Same H H' → H r = none → H' r = some (.lst ((endsF 0 ps).map fun x => V.int (x : Nat))) → Q (.ref r) H'
theorem c_ends_of (T : Txt K mg C CO) : C8.Cal P w K mg base 1 "ends_of" sp_ends_of [] := by
  refine calF T.d_ends_of sc_ends_of (fun vs H Q E h => ?_) (fun f cdv A outer s H vs Q E hr h => ?_)
  · obtain ⟨_, _, _, rfl, _⟩ := h; rfl
  · obtain ⟨l, ps, n, rfl, ⟨vs, hl, hp⟩, ok, hn, q⟩ := h
    have lv := hp.len
    have okl := ok.len
    refine ⟨_, (pss_cons (ps_set (i := 1) sc_ends_of.nd rfl (Or.inl rfl) (pe_lst pa_nil))
    (pss_cons (ps_set (i := 2) sc_ends_of.nd rfl (Or.inl rfl) pe_int)
    (pss_cons (ps_for PassesOwn.never rfl (pi_list (pv 0)) (pg_two (K := K) (i := 3) (j := 4) rfl rfl sc_ends_of.nd rfl rfl (Or.inl rfl) (Or.inl rfl))
    (pss_cons (ps_aug (i := 2) sc_ends_of.nd rfl (.inl rfl) (pe_op op_mulZ (pe_callB call_len_str (by rfl) T.m_len (by decide +kernel) (pa_cons (pv 3) pa_nil)) (pv 4)) ip_add)
    (pss_one (ps_expr (pe_bm PySem.F.plainAttrs_list PySem.F.slot_list_append PySem.F.type_list_append mt_append (pv 1) (pa_cons (pv 2) pa_nil))))))
    (pss_one (ps_ret (pv 1)))))), ?_⟩
    refine ⟨by show 0 ≤ sizeLine; omega, fun r hr0 => ?_⟩
    have rl : r ≠ l := fun z => by rw [z, hl] at hr0; cases hr0
    refine ⟨_, rfl, l, rfl, ⟨_, .inl (.inl (sameNew hr0 _ _ hl))⟩, for_list (K := K) (a := l) (xs := vs) (fun i σ H' => Same H H' ∧ (∃ (z : Int) (y2 y3 : Option V), σ = [some (.ref l), some (.ref r), some (.int z), y2, y3] ∧ z = ((long (ps.take i) : Nat) : Int)) ∧ H' r = some (.lst ((endsF 0 (ps.take i)).map fun x => V.int (x : Nat))))
      ⟨sameNew hr0, ⟨0, none, none, rfl, rfl⟩, upd_same⟩ (fun i σ H' _ p => .inl (.inl (p.1 _ _ hl))) (fun i y σ H' hi p => ?_) (fun σ H' p => ?_)⟩
    · obtain ⟨s1, ⟨z, y2, y3, rfl, ez⟩, hws⟩ := p
      obtain ⟨a, p, rfl, hpi, ha⟩ := hp.get hi
      have hwp := ok.word p (List.mem_of_getElem? hpi)
      have htp := ok.times hn (List.mem_of_getElem? hpi)
      have hii := (List.getElem?_eq_some_iff.mp hpi).1
      obtain ⟨e1, e2⟩ := endsF_take hpi
      refine ⟨a, _, rfl, .inl (.inl (s1 _ _ ha)), rfl, _, _, rfl, _, _, rfl, rfl, ?_⟩
      refine ⟨_, rfl, _, rfl, S p.1, rfl, len_line (by omega), _, rfl, p.1.length, p.2, congrArg (fun n : Nat => V.int n) (S_len _), rfl, by have := hwp.1; omega, by omega, _, _, rfl, rfl, ?_⟩
      have e3 : z + ((p.1.length * p.2 : Nat) : Int) = ((long (ps.take (i + 1)) : Nat) : Int) := by rw [ez, e2, Int.natCast_add]; rfl
      refine ⟨_, rfl, .inl ⟨rfl, _, .inl (.inl hws)⟩, _, rfl, r, _, _, rfl, rfl, hws, by rw [List.length_map, endsF_len, List.length_take, sizeLine_eq]; omega, ?_⟩
      refine ⟨same_upd2 hr0 s1, ⟨_, _, _, rfl, e3⟩, ?_⟩
      rw [upd_same, e1, ← e2, List.map_append]
      exact congrArg (fun v => some (HO.lst (_ ++ [V.int v]))) e3
    · obtain ⟨s1, ⟨z, y2, y3, rfl, _⟩, h⟩ := p
      rw [lv, List.take_length] at h
      exact ⟨_, rfl, q r H' s1 hr0 h⟩
/-! a stretch of one piece -/
/-! the stretch of a list of pieces -/
theorem endsF_at : ∀ (ps : List Pc) (s i : Nat) (p : Pc), ps[i]? = some p → (endsF s ps)[i]? = some (s + long (ps.take i) + plen p)
  | [], _, _, _, h => by simp at h
  | q :: r, s, 0, p, h => by
    cases h
    simp [endsF, long]
  | q :: r, s, i + 1, p, h => by
    have := endsF_at r (s + plen q) i p h
    simp [endsF, this, long]
    omega
theorem cutF_app (lo hi : Nat) : ∀ (a b : List Pc) (s : Nat), cutF lo hi s (a ++ b) = cutF lo hi s a ++ cutF lo hi (s + long a) b
  | [], b, s => by simp [cutF, long]
  | p :: r, b, s => by
    rw [List.cons_append, cutF, cutF, cutF_app lo hi r b, List.append_assoc]
    simp [long, Nat.add_assoc]
theorem cutF_take {ps : List Pc} {i lo hi : Nat} {p : Pc} (h : ps[i]? = some p) : cutF lo hi 0 (ps.take (i + 1)) = cutF lo hi 0 (ps.take i) ++ cut1 lo hi (long (ps.take i)) p := by
  have e : ps.take (i + 1) = ps.take i ++ [p] := by rw [List.take_succ, h]; rfl
  rw [e, cutF_app]
  simp [cutF]
theorem cutF_len (lo hi : Nat) : ∀ (a : List Pc) (s : Nat), (cutF lo hi s a).length ≤ 2 * a.length
  | [], _ => by simp [cutF]
  | p :: r, s => by
    have := cutF_len lo hi r (s + plen p)
    have : (cut1 lo hi s p).length ≤ 2 := by unfold cut1 two; split <;> simp
    rw [cutF, List.length_append, List.length_cons]
    omega
theorem mk3 {z : Str} {a b a' b' : Int} (h : a = a') (g : b = b') : [V.str z, V.int a, V.int b] = [V.str z, V.int a', V.int b'] := by rw [h, g]
end
end K39K

set_option Elab.async false
set_option linter.all false
set_option maxRecDepth 100000
set_option maxHeartbeats 2000000
namespace K39K
open K39 PySem PySem.Spec PyProof.Rows L2 CK SX KM
/-! ### the object -/
def KF (l e : Addr) : List (Str × V) := [("_pieces", .ref l), ("_ends", .ref e)]
theorem pe_ne : ¬ (("_pieces" : Str) = "_ends") := by decide +kernel
theorem ep_ne : ¬ (("_ends" : Str) = "_pieces") := by decide +kernel
theorem put1 (l : Addr) : putF "_pieces" (V.ref l) [] = ([("_pieces", V.ref l)] : List (Str × V)) := rfl
theorem put2 (l e : Addr) : putF "_ends" (V.ref e) ([("_pieces", V.ref l)] : List (Str × V)) = KF l e := by
  show (if ("_pieces" : Str) = "_ends" then [(("_pieces" : Str), V.ref e)] else (("_pieces" : Str), V.ref l) :: putF "_ends" (V.ref e) []) = _
  rw [if_neg pe_ne]
  rfl
theorem put3 (l l' e : Addr) : putF "_pieces" (V.ref l') (KF l e) = KF l' e := by
  show (if ("_pieces" : Str) = "_pieces" then (("_pieces" : Str), V.ref l') :: [(("_ends" : Str), V.ref e)] else _) = _
  rw [if_pos rfl]
  rfl
theorem put4 (l e e' : Addr) : putF "_ends" (V.ref e') (KF l e) = KF l e' := by
  show (if ("_pieces" : Str) = "_ends" then _ else (("_pieces" : Str), V.ref l) :: (if ("_ends" : Str) = "_ends" then (("_ends" : Str), V.ref e') :: [] else _)) = _
  rw [if_neg pe_ne, if_pos rfl]
  rfl
theorem kf_p (l e : Addr) : (KF l e).lookup ("_pieces" : Str) = some (V.ref l) := by
  rw [← put2, lookup_putF, if_neg pe_ne, ← put1, lookup_putF, if_pos rfl]
theorem kf_e (l e : Addr) : (KF l e).lookup ("_ends" : Str) = some (V.ref e) := by
  rw [← put2, lookup_putF, if_pos rfl]
theorem k1_p (l : Addr) : ([("_pieces", V.ref l)] : List (Str × V)).lookup ("_pieces" : Str) = some (V.ref l) := by
  rw [← put1, lookup_putF, if_pos rfl]
theorem kf_no (l e : Addr) {m : Str} (h1 : ¬ m = "_pieces") (h2 : ¬ m = "_ends") : (KF l e).lookup m = none := by
  rw [← put2, lookup_putF, if_neg h2, ← put1, lookup_putF, if_neg h1]
  rfl
def EL (H : Hp) (e : Addr) (ps : List Pc) : Prop := H e = some (.lst ((endsF 0 ps).map fun x => V.int (x : Nat)))
/-- a kept word at p, of the class at C -/
def KW (C : Addr) (H : Hp) (p : Addr) (ps : List Pc) : Prop := ∃ dx l e, H p = some (.ins C dx (KF l e)) ∧ PL H l ps ∧ EL H e ps
theorem KW.same {C : Addr} {H H' : Hp} {p : Addr} {ps : List Pc} (h : KW C H p ps) (s : Same H H') : KW C H' p ps := by
  obtain ⟨dx, l, e, h1, h2, h3⟩ := h
  exact ⟨dx, l, e, s _ _ h1, h2.same s, s _ _ h3⟩
/-- the same, its list of ends is none of those that stood in H0 -/
def KWf (C : Addr) (H0 H : Hp) (p : Addr) (ps : List Pc) : Prop := ∃ dx l e, H p = some (.ins C dx (KF l e)) ∧ PL H l ps ∧ EL H e ps ∧ H0 e = none
theorem KWf.kw {C : Addr} {H0 H : Hp} {p : Addr} {ps : List Pc} (h : KWf C H0 H p ps) : KW C H p ps := by
  obtain ⟨dx, l, e, h1, h2, h3, _⟩ := h
  exact ⟨dx, l, e, h1, h2, h3⟩
theorem none_of {H H' : Hp} {e : Addr} (s : ∀ o, H e = some o → ∃ o', H' e = some o') (h : H' e = none) : H e = none := by
  cases q : H e with
  | none => rfl
  | some o =>
    obtain ⟨o', h2⟩ := s o q
    rw [h] at h2
    cases h2
theorem KWf.pre {C : Addr} {H0 H1 H : Hp} {p : Addr} {ps : List Pc} (h : KWf C H1 H p ps) (s : Same H0 H1) : KWf C H0 H p ps := by
  obtain ⟨dx, l, e, h1, h2, h3, h4⟩ := h
  exact ⟨dx, l, e, h1, h2, h3, none_of (fun o h => ⟨o, s _ _ h⟩) h4⟩
theorem PL.ins {H : Hp} {l p C dx : Addr} {fs gs : List (Str × V)} {ps : List Pc} (h : PL H l ps) (hp : H p = some (.ins C dx fs)) : PL (upd H p (.ins C dx gs)) l ps := by
  obtain ⟨vs, e, q⟩ := h
  refine ⟨vs, ?_, q.mono fun a xs ha => ?_⟩
  · rw [upd_ne (fun z => by rw [z, hp] at e; cases e)]
    exact e
  · rw [upd_ne (fun z => by rw [z, hp] at ha; cases ha)]
    exact ha
section
variable {P : Program} {w : World} {K : PySem.W.Frag} {mg : Str → Option Value} {base : Heap} {C CO : Addr}
def sp_init (C : Addr) : Sp := fun vs H Q _ => ∃ (p dx l : Addr) (ps : List Pc) (n : Nat), vs = [.ref p, .ref l] ∧ H p = some (.ins C dx []) ∧ PL H l ps ∧ OK n ps ∧ n ≤ 1000 ∧ ∀ H', SameX p H H' → KWf C H H' p (tidy ps) → Q .non H'
theorem n_KeptWord (T : Txt K mg C CO) : C8.Mak P w K mg base 5 "KeptWord" C (sp_init C) [] := by
  refine makF T.k_KeptWord T.d_KeptWord___init__ sc_KeptWord___init__ (fun vs H Q E h => ?_) (fun f cdv A outer s H vs Q E hr h => ?_)
  · obtain ⟨_, _, _, _, _, rfl, _⟩ := h; rfl
  · obtain ⟨p, dx, l, ps, n, rfl, hp, hl, ok, hn, q⟩ := h
    have cl := T.k_KeptWord.ins.cl
    have okl := ok.len
    refine ⟨_, (pss_cons (ps_expr (C8.pe_c (c_need_kept_pieces T) hr (by decide) (by rfl) (pa_cons (pv 1) pa_nil)))
    (pss_cons (ps_fld (pv 0) (C8.pe_c (c_put_together T) hr (by decide) (by rfl) (pa_cons (pv 1) pa_nil)) rfl)
    (pss_one (ps_fld (pv 0) (C8.pe_c (c_ends_of T) hr (by decide) (by rfl) (pa_cons (pe_fld (pv 0) rfl) pa_nil)) rfl)))), ?_⟩
    refine ⟨_, rfl, l, ps, n, rfl, hl, ok, hn, fun H1 s1 => ?_⟩
    refine ⟨_, rfl, l, ps, rfl, hl.same s1, by omega, fun x hx => by have := (ok.word x hx).1; omega, fun r H2 s2 n2 P2 => ?_⟩
    have hp2 := s2 _ _ (s1 _ _ hp)
    refine ⟨_, rfl, p, C, dx, _, rfl, hp2, cl, T.f_KeptWord_pieces, by show 0 < 1000; decide, ?_⟩
    have P3 : PL (upd H2 p (.ins C dx [("_pieces", .ref r)])) r (tidy ps) := P2.ins hp2
    refine ⟨_, rfl, p, C, dx, _, _, rfl, upd_same, cl, T.f_KeptWord_pieces, k1_p r, r, tidy ps, n, rfl, P3, ok.tidy, hn, fun e H4 s4 n4 E4 => ?_⟩
    have hp4 : H4 p = some (.ins C dx [("_pieces", .ref r)]) := s4 _ _ upd_same
    refine ⟨_, rfl, p, C, dx, _, rfl, hp4, cl, T.f_ends, by show 1 < 1000; decide, ?_⟩
    refine q _ (fun b o hb h => ?_) ⟨dx, r, e, by rw [put2]; exact upd_same, (P3.same s4).ins hp4, ?_, none_of (fun o h => ?_) n4⟩
    · rw [upd_ne hb]
      refine s4 _ _ ?_
      rw [upd_ne hb]
      exact s2 _ _ (s1 _ _ h)
    · unfold EL
      rw [upd_ne (fun z => by rw [z, hp4] at E4; cases E4)]
      exact E4
    · by_cases z : e = p
      · exact ⟨_, by rw [z]; exact upd_same⟩
      · exact ⟨o, by rw [upd_ne z]; exact s2 _ _ (s1 _ _ h)⟩
def sp_pieces (C : Addr) : Sp := fun vs H Q _ => ∃ (p : Addr) (ps : List Pc), vs = [.ref p] ∧ KW C H p ps ∧ ∀ l H', Same H H' → H l = none → PL H' l ps → Q (.ref l) H'
theorem m_KeptWord_pieces (T : Txt K mg C CO) : C8.Met P w K mg base 1 C "pieces" (sp_pieces C) [] := by
  refine metF T.k_KeptWord T.d_KeptWord_pieces sc_KeptWord_pieces (fun vs H Q E h => ?_) (fun f cdv A outer s H vs Q E hr h => ?_)
  · obtain ⟨_, _, rfl, _⟩ := h; rfl
  · obtain ⟨p, ps, rfl, ⟨dx, l, e, hp, ⟨vs, hl, hv⟩, he⟩, q⟩ := h
    refine ⟨_, (pss_one (ps_ret (pe_callTy call_list_of (by rfl) T.m_list (by decide +kernel) (pa_cons (pe_fld (pv 0) rfl) pa_nil)))), ?_⟩
    exact ⟨_, rfl, p, C, dx, _, _, rfl, hp, T.k_KeptWord.ins.cl, T.f_KeptWord_pieces, kf_p l e, l, vs, rfl, .inl (.inl (.inl hl)), fun r hr0 => q r _ (sameNew hr0) hr0 ⟨vs, upd_same, hv.same (sameNew hr0)⟩⟩
theorem long_take {ps : List Pc} {i : Nat} {p : Pc} (h : ps[i]? = some p) : long (ps.take (i + 1)) = long (ps.take i) + plen p := (endsF_take h).2
theorem ends_at {ps : List Pc} {i : Nat} (h : i < ps.length) : (endsF 0 ps)[i]? = some (long (ps.take (i + 1))) := by
  have hp := List.getElem?_eq_getElem h
  rw [endsF_at ps 0 i _ hp, long_take hp, Nat.zero_add]
theorem endsV_at {ps : List Pc} {i : Nat} (h : i < ps.length) : ((endsF 0 ps).map fun x => V.int (x : Nat))[i]? = some (V.int (long (ps.take (i + 1)) : Nat)) := by
  rw [List.getElem?_map, ends_at h]
  rfl
theorem long_mono {ps : List Pc} : ∀ {i j : Nat}, i ≤ j → long (ps.take i) ≤ long (ps.take j) := by
  intro i j h
  have e : ps.take j = ps.take i ++ (ps.take j).drop i := by
    have := List.take_append_drop i (ps.take j)
    rw [List.take_take, Nat.min_eq_left h] at this
    exact this.symm
  rw [e]
  simp [long]
def sp_length (C : Addr) : Sp := fun vs H Q _ => ∃ (p : Addr) (ps : List Pc), vs = [.ref p] ∧ KW C H p ps ∧ Q (.int (long ps : Nat)) H
theorem m_KeptWord_length (T : Txt K mg C CO) : C8.Met P w K mg base 1 C "length" (sp_length C) [] := by
  refine metF T.k_KeptWord T.d_KeptWord_length sc_KeptWord_length (fun vs H Q E h => ?_) (fun f cdv A outer s H vs Q E hr h => ?_)
  · obtain ⟨_, _, rfl, _⟩ := h; rfl
  · obtain ⟨p, ps, rfl, ⟨dx, l, e, hp, hl, he⟩, q⟩ := h
    have cl := T.k_KeptWord.ins.cl
    refine ⟨_, (pss_one (ps_ret (pe_ifExp (pt_truth (pe_fld (pv 0) rfl) (by intro _; rfl)) (pe_ix ix_list (pe_fld (pv 0) rfl) (pe_un un_neg pe_int) (fun _ _ => rfl)) pe_int))), ?_⟩
    refine ⟨_, rfl, p, C, dx, _, _, rfl, hp, cl, T.f_ends, kf_e l e, _, .inl ⟨_, .inl (.inl he), rfl⟩, ?_⟩
    by_cases z : ps = []
    · subst z
      exact iteF q
    · have n0 := List.length_pos_iff.mpr z
      rw [show (!((endsF 0 ps).map fun x => V.int (x : Nat)).isEmpty) = true by
        cases ps with
        | nil => exact absurd rfl z
        | cons _ _ => rfl]
      refine iteT ⟨_, rfl, p, C, dx, _, _, rfl, hp, cl, T.f_ends, kf_e l e, 1, rfl, e, _, -1, _, rfl, rfl, .inl (.inl he), last_at ?_, q⟩
      rw [List.length_map, endsF_len, endsV_at (by omega), show ps.length - 1 + 1 = ps.length by omega, List.take_length]
end
end K39K

set_option Elab.async false
set_option linter.all false
set_option maxRecDepth 100000
set_option maxHeartbeats 2000000
namespace K39K
open K39 PySem PySem.Spec PyProof.Rows L2 CK SX KM
/-! ### letters -/
/-- piece k is the one in which letter i lies -/
def In1 (ps : List Pc) (i k : Nat) : Prop := k < ps.length ∧ i < long (ps.take (k + 1)) ∧ long (ps.take k) ≤ i
section
variable {P : Program} {w : World} {K : PySem.W.Frag} {mg : Str → Option Value} {base : Heap} {C CO : Addr}
def sp_piece_index : Sp := fun vs H Q _ => ∃ (e : Addr) (ps : List Pc) (i : Nat), vs = [.ref e, .int i] ∧ EL H e ps ∧ i < long ps ∧ ps.length ≤ 1000 ∧ ∀ k : Nat, In1 ps i k → Q (.int k) H
theorem c_piece_index (T : Txt K mg C CO) : C8.Cal P w K mg base 1 "piece_index" sp_piece_index [] := by
  refine calF T.d_piece_index sc_piece_index (fun vs H Q E h => ?_) (fun f cdv A outer s H vs Q E hr h => ?_)
  · obtain ⟨_, _, _, rfl, _⟩ := h; rfl
  · obtain ⟨e, ps, i, rfl, he, hi, hlen, q⟩ := h
    have n0 : 0 < ps.length := by
      cases ps with
      | nil => simp [long] at hi
      | cons _ _ => simp
    refine ⟨_, (pss_cons (ps_par (i := 2) (j := 3) (by rfl) sc_piece_index.nd rfl rfl (by decide) rfl rfl (pa_cons pe_int (pa_cons (pe_op op_sub (pe_callB call_len_seq (by rfl) T.m_len (by decide +kernel) (pa_cons (pv 0) pa_nil)) pe_int) pa_nil)) (by rfl))
    (pss_cons (ps_while PassesOwn.never (pt_cmpR op_lt (pv 2) (pv 3) (nomark _))
    (pss_cons (ps_set (i := 4) sc_piece_index.nd rfl (Or.inl rfl) (pe_op op_fdivZ (pe_op op_add (pv 2) (pv 3)) pe_int))
    (pss_one (ps_if (pt_cmpR op_gt (pe_ix ix_list (pv 0) (pv 4) (fun _ _ => rfl)) (pv 1) (nomark _))
    (pss_one (ps_set (i := 3) sc_piece_index.nd rfl (Or.inl rfl) (pv 4)))
    (pss_one (ps_set (i := 2) sc_piece_index.nd rfl (Or.inl rfl) (pe_op op_add (pv 4) pe_int)))))))
    (pss_one (ps_ret (pv 2))))), ?_⟩
    refine ⟨_, rfl, e, _, rfl, .inl (.inl (.inl he)), _, _, rfl, rfl, _, _, rfl, ?_⟩
    refine while_by (fun σ H' => H' = H ∧ ∃ (lo hi : Nat) (zl zh : Int) (y : Option V), σ = [some (.ref e), some (.int i), some (.int zl), some (.int zh), y] ∧ zl = lo ∧ zh = hi ∧ lo ≤ hi ∧ hi < ps.length ∧ i < long (ps.take (hi + 1)) ∧ long (ps.take lo) ≤ i)
      (fun σ _ => match σ with | [_, _, some (.int zl), some (.int zh), _] => (zh - zl).toNat | _ => 0) ?_ (fun σ H' p => ?_) ?_
    · refine ⟨rfl, 0, ps.length - 1, _, _, none, rfl, rfl, ?_, Nat.zero_le _, by omega, ?_, by simp [long]⟩
      · rw [List.length_map, endsF_len]
        omega
      · rw [show ps.length - 1 + 1 = ps.length by omega, List.take_length]
        exact hi
    · obtain ⟨rfl, lo, hh, zl, zh, y, rfl, rfl, rfl, hle, hlt, h1, h2⟩ := p
      refine ⟨_, rfl, _, rfl, _, _, rfl, rfl, _, rfl, ite2 (fun c => ?_) (fun c => ?_)⟩
      · have c' : lo < hh := by
          have := of_decide_eq_true c
          omega
        refine ⟨_, rfl, _, rfl, _, _, rfl, rfl, lo + hh, 2, congrArg V.int (by omega), rfl, by decide, by decide, ?_⟩
        have m1 : lo ≤ (lo + hh) / 2 := by omega
        have m2 : (lo + hh) / 2 < hh := by omega
        generalize hm : (lo + hh) / 2 = m at m1 m2
        refine ⟨_, rfl, _, rfl, e, _, _, _, rfl, rfl, .inl (.inl he), atI_nat (j := m) (endsV_at (ps := ps) (i := m) (by omega)), _, rfl, _, _, rfl, rfl, _, rfl, ite2 (fun d => ?_) (fun d => ?_)⟩
        · have d' : i < long (ps.take (m + 1)) := by
            have := of_decide_eq_true d
            omega
          refine ⟨_, rfl, ⟨rfl, lo, m, _, _, _, rfl, rfl, rfl, m1, by omega, by omega, h2⟩, ?_⟩
          show (((m : Nat) : Int) - (lo : Int)).toNat < ((hh : Int) - (lo : Int)).toNat
          omega
        · have d' : ¬ (i < long (ps.take (m + 1))) := fun z => d (decide_eq_true (by omega))
          refine ⟨_, rfl, _, _, rfl, rfl, ⟨rfl, m + 1, hh, _, _, _, rfl, rfl, rfl, by omega, hlt, h1, by omega⟩, ?_⟩
          show ((hh : Int) - (((m : Nat) : Int) + 1)).toNat < ((hh : Int) - (lo : Int)).toNat
          omega
      · have c' : lo = hh := by
          have : ¬ (lo : Int) < hh := fun z => c (decide_eq_true z)
          omega
        subst c'
        exact ⟨_, rfl, q lo ⟨hlt, h1, h2⟩⟩
    · intro σ H' Q1 Q2 hq h
      obtain ⟨a, ha, b, hb, x, y, e1, e2, k, e3, h⟩ := h
      exact ⟨a, ha, b, hb, x, y, e1, e2, k, e3, hq _ _ h⟩
def sp_letter (C : Addr) : Sp := fun vs H Q _ => ∃ (p : Addr) (ps : List Pc) (n i : Nat) (c : Nat), vs = [.ref p, .int i] ∧ KW C H p ps ∧ OK n ps ∧ n ≤ 1000 ∧ (wr ps)[i]? = some c ∧ Q (.str (S [c])) H
theorem m_KeptWord_letter (T : Txt K mg C CO) : C8.Met P w K mg base 4 C "letter" (sp_letter C) [] := by
  refine metF T.k_KeptWord T.d_KeptWord_letter sc_KeptWord_letter (fun vs H Q E h => ?_) (fun f cdv A outer s H vs Q E hr h => ?_)
  · obtain ⟨_, _, _, _, _, rfl, _⟩ := h; rfl
  · obtain ⟨p, ps, n, i, c, rfl, kw, ok, hn, hc, q⟩ := h
    obtain ⟨dx, l, e, hp, ⟨vs, hl, hv⟩, he⟩ := id kw
    have cl := T.k_KeptWord.ins.cl
    have okl := ok.len
    have hi : i < long ps := by
      have := (List.getElem?_eq_some_iff.mp hc).1
      rw [wr_len] at this
      exact this
    refine ⟨_, (pss_cons (ps_expr (C8.pe_c (c_need_within T) hr (by decide) (by rfl) (pa_cons (pv 1) (pa_cons pe_int (pa_cons (pe_op op_sub (C8.pe_mt0 (m_KeptWord_length T) hr (by decide) (pv 0)) pe_int) pa_nil)))))
    (pss_cons (ps_set (i := 2) sc_KeptWord_letter.nd rfl (Or.inl rfl) (C8.pe_c (c_piece_index T) hr (by decide) (by rfl) (pa_cons (pe_fld (pv 0) rfl) (pa_cons (pv 1) pa_nil))))
    (pss_cons (ps_asg (pe_ix ix_list (pe_fld (pv 0) rfl) (pv 2) (fun _ _ => rfl)) (pg_two (K := K) (i := 3) (j := 4) rfl rfl sc_KeptWord_letter.nd rfl rfl (Or.inl rfl) (Or.inl rfl)))
    (pss_one (ps_ret (pe_ix ix_str (pv 3) (pe_op op_modZ (pe_op op_add (pe_op op_sub (pv 1) (pe_ix ix_list (pe_fld (pv 0) rfl) (pv 2) (fun _ _ => rfl))) (pe_op op_mulZ (pe_callB call_len_str (by rfl) T.m_len (by decide +kernel) (pa_cons (pv 3) pa_nil)) (pv 4))) (pe_callB call_len_str (by rfl) T.m_len (by decide +kernel) (pa_cons (pv 3) pa_nil))) (fun _ _ => rfl))))))), ?_⟩
    refine ⟨_, rfl, _, rfl, p, dx, _, rfl, hp, kf_no l e (by decide +kernel) (by decide +kernel), p, ps, rfl, kw, _, _, rfl, rfl, i, 0, _, rfl, by omega, by omega, ?_⟩
    refine ⟨_, rfl, p, C, dx, _, _, rfl, hp, cl, T.f_ends, kf_e l e, _, rfl, e, ps, i, rfl, he, hi, by omega, fun k hk => ?_⟩
    obtain ⟨k1, k2, k3⟩ := hk
    have hpk := List.getElem?_eq_getElem k1
    generalize ps[k] = pc at hpk
    obtain ⟨a, hva, ha⟩ := hv.at hpk
    have hw := ok.word pc (List.mem_of_getElem? hpk)
    have ht := ok.times hn (List.mem_of_getElem? hpk)
    have lt := long_take hpk
    have la := let_at (s := 0) hpk (ends_at k1) k2 (by omega) (by omega)
    rw [hc] at la
    obtain ⟨la, ne⟩ := la
    have n0 := List.length_pos_iff.mpr ne
    refine ⟨_, rfl, p, C, dx, _, _, rfl, hp, cl, T.f_KeptWord_pieces, kf_p l e, _, rfl, l, _, _, _, rfl, rfl, .inl (.inl hl), atI_nat (j := k) hva, a, _, rfl, .inl (.inl ha), rfl, _, _, rfl, _, _, rfl, rfl, ?_⟩
    have pe : plen pc = pc.1.length * pc.2 := rfl
    refine ⟨_, rfl, _, rfl, _, rfl, p, C, dx, _, _, rfl, hp, cl, T.f_ends, kf_e l e, _, rfl, e, _, _, _, rfl, rfl, .inl (.inl he), atI_nat (j := k) (endsV_at k1), _, _, rfl, rfl, _, rfl, S pc.1, rfl, len_line (by omega), _, rfl, pc.1.length, pc.2, congrArg (fun n : Nat => V.int n) (S_len _), rfl, by omega, by omega, ?_⟩
    refine ⟨_, _, rfl, rfl, _, rfl, S pc.1, rfl, len_line (by omega), i - (long (ps.take (k + 1)) - plen pc), pc.1.length, congrArg V.int (by omega), congrArg (fun n : Nat => V.int n) (S_len _), by omega, ?_⟩
    have ei : i - (long (ps.take (k + 1)) - plen pc) = i - (long (ps.take (k + 1)) - plen pc) := rfl
    exact ⟨_, _, c, rfl, rfl, len_line (by omega), atI_nat (xs := pc.1) la.symm, q⟩
end
end K39K

set_option Elab.async false
set_option linter.all false
set_option maxRecDepth 100000
set_option maxHeartbeats 4000000
namespace K39K
open K39 PySem PySem.Spec PyProof.Rows L2 CK SX KM
theorem stretch_tailN {u : List Nat} (h : u ≠ []) {r n : Nat} (hn : n ≤ r) (k : Nat) (hk : (u.length - r % u.length) % u.length + n ≤ u.length * k) :
    ((List.replicate k u).flatten.drop ((u.length - r % u.length) % u.length)).take n = (NM.tailE u r).take n := by
  have n0 := List.length_pos_iff.mpr h
  have l : (List.replicate k u).flatten.length = u.length * k := WM.pw_len u k
  refine List.ext_getElem? fun i => ?_
  by_cases hi : i < n
  · rw [List.getElem?_take_of_lt hi, List.getElem?_drop, List.getElem?_take_of_lt hi, NM.tailE_get h (by omega)]
    have := WM.pw_get h k ((u.length - r % u.length) % u.length + i) (by omega)
    unfold WM.pw at this
    rw [this]
    congr 1
    rw [Nat.mod_add_mod, Nat.add_comm]
  · rw [List.getElem?_eq_none (by rw [List.length_take]; omega), List.getElem?_eq_none (by rw [List.length_take]; omega)]
section
variable {P : Program} {w : World} {K : PySem.W.Frag} {mg : Str → Option Value} {base : Heap} {C CO : Addr}
def sp_stretchN : Sp := fun vs H Q _ => ∃ (u : List Nat) (r n : Nat), vs = [.str (S u), .int (-(r : Int)), .int n] ∧ u ≠ [] ∧ u.length ≤ 100000 ∧ n ≤ 100000 ∧ n ≤ r ∧ r < 2 ^ 400 ∧ Q (.str (S ((NM.tailE u r).take n))) H
theorem c_stretch (T : Txt K mg C CO) : C8.Cal P w K mg base 1 "stretch" sp_stretchN [] := by
  refine calF T.d_stretch sc_stretch (fun vs H Q E h => ?_) (fun f cdv A outer s H vs Q E hr h => ?_)
  · obtain ⟨_, _, _, rfl, _⟩ := h; rfl
  · obtain ⟨u, r, n, rfl, ne, hu, hn, hnr, hr4, q⟩ := h
    have n0 := List.length_pos_iff.mpr ne
    refine ⟨_, (pss_cons (ps_set (i := 3) sc_stretch.nd rfl (Or.inl rfl) (pe_op op_modN (pv 1) (pe_callB call_len_str (by rfl) T.m_len (by decide +kernel) (pa_cons (pv 0) pa_nil))))
    (pss_one (ps_ret (pe_slice C8.sl_txt (pe_op op_repM (pv 0) (pe_op op_add (pe_op op_fdivZ (pe_op op_add (pv 3) (pv 2)) (pe_callB call_len_str (by rfl) T.m_len (by decide +kernel) (pa_cons (pv 0) pa_nil))) pe_int)) (po_some (pv 3)) (po_some (pe_op op_add (pv 3) (pv 2))))))), ?_⟩
    have hm := fmod_neg r n0
    generalize ha : (u.length - r % u.length) % u.length = a at hm
    have alt : a < u.length := by rw [← ha]; exact Nat.mod_lt _ n0
    refine ⟨_, rfl, _, rfl, S u, rfl, K39.len_line (by omega), -(r : Int), u.length, rfl, congrArg (fun n : Nat => V.int n) (S_len u), by omega, ?_⟩
    have hdm := Nat.div_add_mod (a + n) u.length
    have hml := Nat.mod_lt (a + n) n0
    have dl : (a + n) / u.length ≤ a + n := Nat.div_le_self _ _
    refine ⟨_, rfl, _, rfl, _, rfl, a, n, congrArg V.int hm, rfl, _, rfl, S u, rfl, K39.len_line (by omega), a + n, u.length, congrArg V.int (by omega), congrArg (fun n : Nat => V.int n) (S_len u), by omega, by omega, _, _, rfl, rfl, u, (a + n) / u.length + 1, rfl, congrArg V.int (by omega), by omega, by omega, ?_, ?_⟩
    · rw [Nat.add_mul, Nat.one_mul, Nat.mul_comm]
      omega
    · have l : (List.replicate ((a + n) / u.length + 1) u).flatten.length = u.length * ((a + n) / u.length + 1) := WM.pw_len u _
      have hle : a + n ≤ u.length * ((a + n) / u.length + 1) := by rw [Nat.mul_succ]; omega
      refine ⟨_, rfl, a, congrArg V.int hm, _, rfl, _, rfl, a, n, congrArg V.int hm, rfl, ((a + n : Nat) : Int), congrArg V.int (by omega), S _, rfl, ?_, ?_⟩
      · rw [S_len, l, Nat.mul_succ, sizeLine_eq]
        omega
      · rw [slice_mid (by omega) (by rw [l]; exact hle), show a + n - a = n by omega, ← ha, stretch_tailN ne hnr _ (by rw [ha]; exact hle)]
        exact q
def sp_need_kept (C : Addr) : Sp := fun vs H Q _ => ∃ (p : Addr) (ps : List Pc), vs = [.ref p] ∧ KW C H p ps ∧ Q .non H
theorem c_need_kept (T : Txt K mg C CO) : C8.Cal P w K mg base 1 "need_kept" (sp_need_kept C) [] := by
  refine calF T.d_need_kept sc_need_kept (fun vs H Q E h => ?_) (fun f cdv A outer s H vs Q E hr h => ?_)
  · obtain ⟨_, _, rfl, _⟩ := h; rfl
  · obtain ⟨p, ps, rfl, ⟨dx, l, e, hp, hl, he⟩, q⟩ := h
    refine ⟨_, (pss_one (ps_if (pt_not (pt_val (pe_callB (C8.call_isC T.k_KeptWord.ins) (by rfl) T.m_isinstance (by decide +kernel) (pa_cons (pv 0) (pa_cons (C8.pe_gc (v := .ref C) (by rfl) ⟨_, T.k_KeptWord.mgC, rfl⟩) pa_nil)))))
    (pss_one ps_never)
    pss_nil)), ?_⟩
    exact ⟨_, rfl, p, dx, _, rfl, hp, _, rfl, iteF q⟩

/-- numbers of letters -/
def NatL (H : Hp) (e : Addr) (xs : List Nat) : Prop := H e = some (.lst (xs.map fun n : Nat => V.int (n : Nat)))
def sp_sizes : Sp := fun vs H Q _ => ∃ (l : Addr) (ps : List Pc) (n : Nat), vs = [.ref l] ∧ PL H l ps ∧ OK n ps ∧ n ≤ 1000 ∧ ∀ D H', Same H H' → NatL H' D (ps.map plen) → Q (.ref D) H'
theorem c_sizes_of (T : Txt K mg C CO) : C8.Cal P w K mg base 1 "sizes_of" sp_sizes [] := by
  refine calF T.d_sizes_of sc_sizes_of (fun vs H Q E h => ?_) (fun f cdv A outer s H vs Q E hr h => ?_)
  · obtain ⟨_, _, _, rfl, _⟩ := h; rfl
  · obtain ⟨l, ps, n, rfl, ⟨vs, hl, hp⟩, ok, hn, q⟩ := h
    have len := hp.len
    have okl := ok.len
    refine ⟨_, (pss_one (ps_ret (pe_lc (own := [("word", 1), ("times", 2)]) (by rfl) sc_sizes_of.nd (pi_list (pv 0)) (blkOk_by (N := ["pieces", "word", "times"]) (sc := C8.fnScope (topS 49)) (own := [("word", 1), ("times", 2)]) (by decide +kernel)) (fun _ _ _ _ _ => (pg_two (K := K) (i := 1) (j := 2) rfl rfl sc_sizes_of.nd rfl rfl (Or.inl rfl) (Or.inl rfl))) (fun _ _ _ _ _ => pts_nil) (fun _ _ _ _ _ => (pe_op op_mulW (pe_callB call_len_str (by rfl) T.m_len (by decide +kernel) (pa_cons (pv 1) pa_nil)) (pv 2)))))), ?_⟩
    refine ⟨_, rfl, l, rfl, ⟨_, .inl (.inl hl)⟩, fun D hD => ?_⟩
    refine lc_list (K := K) (a := l) (xs := vs) (fun i H1 => Same H H1 ∧ H1 D = some (.lst (((ps.take i).map plen).map fun n : Nat => V.int (n : Nat)))) ⟨sameNew hD, upd_same⟩ (fun i H1 _ p => .inl (.inl (p.1 _ _ hl))) (fun i y H1 hi p => ?_) fun H1 p => ?_
    · obtain ⟨s1, hD1⟩ := p
      obtain ⟨a, p, rfl, hpi, ha⟩ := hp.get hi
      have hw := ok.word p (List.mem_of_getElem? hpi)
      have ht := ok.times hn (List.mem_of_getElem? hpi)
      refine ⟨a, _, rfl, .inl (.inl (s1 _ _ ha)), rfl, _, _, rfl, _, _, rfl, rfl, rfl, yes_if ?_⟩
      refine ⟨_, rfl, S p.1, rfl, len_line (by omega), _, rfl, _, _, rfl, rfl, wide_mul (a := 10) (b := 300) (by rw [S_len]; omega) (by omega) (by decide) (by decide) (by decide), _, hD1, ?_, same_upd2 hD s1, ?_⟩
      · rw [List.length_map, List.length_map, List.length_take, sizeLine_eq]
        omega
      · rw [upd_same, List.take_succ, hpi, List.map_append, List.map_append, S_len]
        rfl
    · obtain ⟨s1, hD1⟩ := p
      rw [len, List.take_length] at hD1
      exact q D H1 s1 hD1
def sp_place0 : Sp := fun vs H Q _ => ∃ (e : Addr) (xs : List Nat), vs = [.ref e, .int 0] ∧ NatL H e xs ∧ (∀ x ∈ xs, 0 < x) ∧ xs.length ≤ 1000 ∧ ∀ t H', Same H H' → H' t = some (.tup [.int 0, .int (xs.headD 0 : Nat)]) → Q (.ref t) H'
theorem c_place_within (T : Txt K mg C CO) : C8.Cal P w K mg base 1 "place_within" sp_place0 [] := by
  refine calF T.d_place_within sc_place_within (fun vs H Q E h => ?_) (fun f cdv A outer s H vs Q E hr h => ?_)
  · obtain ⟨_, _, rfl, _⟩ := h; rfl
  · obtain ⟨e, xs, rfl, he, pos, lx, q⟩ := h
    have he' : H e = some (.lst (xs.map fun n : Nat => V.int (n : Nat))) := he
    refine ⟨_, (pss_cons (ps_for PassesOwn.never rfl (pi_enum (by rfl) T.m_enumerate (pa_cons (pv 0) pa_nil)) (pg_two (K := K) (i := 2) (j := 3) rfl rfl sc_place_within.nd rfl rfl (Or.inl rfl) (Or.inl rfl))
    (pss_cons (ps_if (pt_cmpR op_lt (pv 1) (pv 3) (nomark _))
    (pss_one (ps_ret (pe_tup (pa_cons (pv 2) (pa_cons (pe_op op_sub (pv 3) (pv 1)) pa_nil)))))
    pss_nil)
    (pss_one (ps_aug (i := 1) sc_place_within.nd rfl (.inl rfl) (pv 3) ip_sub))))
    (pss_one (ps_ret (pe_tup (pa_cons (pe_callB call_len_seq (by rfl) T.m_len (by decide +kernel) (pa_cons (pv 0) pa_nil)) (pa_cons pe_int pa_nil)))))), ?_⟩
    refine ⟨_, rfl, e, _, rfl, .inl (.inl he'), ?_⟩
    refine for_it (walk_enum (K := K) (a := e) (xs := xs.map fun n : Nat => V.int (n : Nat))) (fun i σ H' => i = 0 ∧ H' = H ∧ σ = [some (.ref e), some (.int 0), none, none]) ⟨rfl, rfl, rfl⟩ (fun i σ H' _ p => by rw [p.2.1]; exact .inl (.inl he')) (fun i v σ H' H'' hi p yy => ?_) fun σ H' p => ?_
    · obtain ⟨rfl, rfl, rfl⟩ := p
      obtain ⟨t, x, y, rfl, nt, rfl, hx, hy⟩ := yy
      cases hx
      have h0 : 0 < xs.length := by rw [List.length_map] at hi; exact hi
      obtain ⟨z, zs, rfl⟩ : ∃ z zs, xs = z :: zs := by
        cases xs with
        | nil => simp at h0
        | cons z zs => exact ⟨z, zs, rfl⟩
      cases hy
      have z0 := pos z List.mem_cons_self
      have st := sameNew (o := .tup [V.int (0 : Nat), V.int (z : Nat)]) nt
      refine ⟨t, _, rfl, .inl (.inl upd_same), rfl, _, _, rfl, _, _, rfl, rfl, ?_⟩
      refine ⟨_, rfl, _, rfl, _, _, rfl, rfl, _, rfl, ?_⟩
      rw [decide_eq_true (show (0 : Int) < ((z : Nat) : Int) by omega)]
      refine iteT ⟨_, rfl, _, rfl, _, rfl, _, _, rfl, rfl, by show 2 ≤ sizeLine; decide, fun t2 nt2 => ?_⟩
      refine q t2 _ (st.trans (sameNew nt2)) ?_
      rw [upd_same]
      show some (HO.tup [V.int ((0 : Nat) : Int), V.int ((z : Int) - 0)]) = _
      rw [Int.sub_zero]
      rfl
    · obtain ⟨h0, rfl, rfl⟩ := p
      rw [List.length_map] at h0
      have x0 : xs = [] := List.length_eq_zero_iff.mp h0
      subst x0
      refine ⟨_, rfl, e, _, rfl, .inl (.inl (.inl he')), by show 2 ≤ sizeLine; decide, fun t nt => ?_⟩
      exact q t _ (sameNew nt) upd_same
end
end K39K

set_option Elab.async false
set_option linter.all false
set_option maxRecDepth 100000
set_option maxHeartbeats 8000000
namespace K39K
open K39 PySem PySem.Spec PyProof.Rows L2 CK SX KM
/-- what is left of a kept word: r letters of piece i and all behind it -/
def restW (ps : List Pc) (i r : Nat) : List Nat := match ps[i]? with
  | some p => NM.tailE p.1 r ++ wr (ps.drop (i + 1))
  | none => []
theorem restW_at {ps : List Pc} {i : Nat} {p : Pc} (h : ps[i]? = some p) (r : Nat) : restW ps i r = NM.tailE p.1 r ++ wr (ps.drop (i + 1)) := by
  unfold restW
  rw [h]
theorem restW_start {ps : List Pc} (h : ∀ p ∈ ps, p.1 ≠ [] ∧ p.2 ≠ 0) (i : Nat) : restW ps i ((ps.map plen).getD i 0) = wr (ps.drop i) := by
  unfold restW
  cases e : ps[i]? with
  | none =>
    rw [List.drop_eq_nil_of_le (List.getElem?_eq_none_iff.mp e)]
    rfl
  | some p =>
    have hi := (List.getElem?_eq_some_iff.mp e).1
    have ne := (h p (List.mem_of_getElem? e)).1
    have e2 : (ps.map plen).getD i 0 = p.1.length * p.2 := by
      rw [List.getD_eq_getElem?_getD, List.getElem?_map, e]
      rfl
    have e3 : ps.drop i = p :: ps.drop (i + 1) := by
      rw [List.drop_eq_getElem_cons hi]
      congr 1
      exact (List.getElem?_eq_some_iff.mp e).2
    show NM.tailE p.1 ((ps.map plen).getD i 0) ++ _ = _
    rw [e2, WM.tail_full ne, e3]
    rfl
theorem restW_zero {ps : List Pc} {i : Nat} (h : ∀ p ∈ ps, p.1 ≠ [] ∧ p.2 ≠ 0) : restW ps i 0 = wr (ps.drop (i + 1)) := by
  unfold restW
  cases e : ps[i]? with
  | none =>
    rw [List.drop_eq_nil_of_le (by have := List.getElem?_eq_none_iff.mp e; omega)]
    rfl
  | some p =>
    have ne := (h p (List.mem_of_getElem? e)).1
    have l := NM.tailE_len ne 0
    show NM.tailE p.1 0 ++ _ = _
    rw [List.length_eq_zero_iff.mp l]
    rfl
/-- a place between two pieces -/
structure At (ps : List Pc) (i r : Nat) : Prop where
  le : i ≤ ps.length
  pos : i < ps.length → 0 < r
  top : ∀ p, ps[i]? = some p → r ≤ plen p
theorem At.start {ps : List Pc} (h : ∀ p ∈ ps, p.1 ≠ [] ∧ p.2 ≠ 0) {i : Nat} (hi : i ≤ ps.length) : At ps i ((ps.map plen).getD i 0) := by
  have g : ∀ p, ps[i]? = some p → (ps.map plen).getD i 0 = plen p := fun p e => by
    rw [List.getD_eq_getElem?_getD, List.getElem?_map, e]
    rfl
  refine ⟨hi, fun lt => ?_, fun p e => by rw [g p e]; exact Nat.le_refl _⟩
  have e := List.getElem?_eq_getElem lt
  obtain ⟨n1, n2⟩ := h _ (List.getElem_mem lt)
  rw [g _ e]
  exact Nat.mul_pos (List.length_pos_iff.mpr n1) (Nat.pos_of_ne_zero n2)
theorem join1 {a u : TS} {D : Ends} {σ : L2.St} {H : Hp} (Pre : L2.St → Hp → Prop) (rest : ∀ σ' H', Pre σ' H' → u D σ' H') (m : ∀ U : TS, (∀ σ' H', Pre σ' H' → U D σ' H') → tSeq a U D σ H) : tSeq a u D σ H := m u rest
theorem tAnd_mono {t u : TT} (mt : ∀ σ H (Q Q' : Bool → Hp → Prop), (∀ b H1, Q b H1 → Q' b H1) → t σ H Q → t σ H Q') (mu : ∀ σ H (Q Q' : Bool → Hp → Prop), (∀ b H1, Q b H1 → Q' b H1) → u σ H Q → u σ H Q') : ∀ σ H (Q Q' : Bool → Hp → Prop), (∀ b H1, Q b H1 → Q' b H1) → tAnd t u σ H Q → tAnd t u σ H Q' := fun σ H Q Q' hq h => by
  refine mt _ _ _ _ (fun b H1 h1 => ?_) h
  cases b with
  | true => exact mu _ _ _ _ hq h1
  | false => exact hq _ _ h1
theorem restW_none {ps : List Pc} {i : Nat} (h : ps.length ≤ i) (r : Nat) : restW ps i r = [] := by
  unfold restW
  rw [List.getElem?_eq_none h]
theorem hd_get (xs : List Nat) : xs.headD 0 = xs.getD 0 0 := by cases xs <;> rfl
theorem nat_at {xs : List Nat} {i : Nat} (h : i < xs.length) : (xs.map fun n : Nat => V.int (n : Nat))[i]? = some (.int ((xs.getD i 0 : Nat) : Int)) := by
  rw [List.getElem?_map, List.getElem?_eq_getElem h, List.getD_eq_getElem?_getD, List.getElem?_eq_getElem h]
  rfl
theorem min_int (a b : Nat) : (if (b : Int) < (a : Int) then (b : Int) else (a : Int)) = ((min a b : Nat) : Int) := by
  split <;> omega
/-- a place that has come to an end goes on to the next piece -/
theorem nextAt {ps : List Pc} (h : ∀ p ∈ ps, p.1 ≠ [] ∧ p.2 ≠ 0) {i : Nat} (hi : i < ps.length) : At ps (i + 1) ((ps.map plen).getD (i + 1) 0) ∧ restW ps i 0 = restW ps (i + 1) ((ps.map plen).getD (i + 1) 0) := ⟨At.start h hi, by rw [restW_zero h, restW_start h]⟩
section
variable {P : Program} {w : World} {K : PySem.W.Frag} {mg : Str → Option Value} {base : Heap} {C CO : Addr}
def sp_alike_from : Sp := fun vs H Q _ => ∃ (l1 l2 : Addr) (ps qs : List Pc) (n : Nat), vs = [.ref l1, .int 0, .ref l2, .int 0] ∧ PL H l1 ps ∧ PL H l2 qs ∧ OK n ps ∧ OK n qs ∧ n ≤ 1000 ∧ (∀ p ∈ ps, p.1 ≠ [] ∧ p.2 ≠ 0) ∧ (∀ p ∈ qs, p.1 ≠ [] ∧ p.2 ≠ 0) ∧ ∀ H', Same H H' → Q (.int (WM.lcp (wr ps) (wr qs) : Nat)) H'
theorem c_alike_from (T : Txt K mg C CO) : C8.Cal P w K mg base 2 "alike_from" sp_alike_from [] := by
  refine calF T.d_alike_from sc_alike_from (fun vs H Q E h => ?_) (fun f cdv A outer s H vs Q E hr h => ?_)
  · obtain ⟨_, _, _, _, _, rfl, _⟩ := h; rfl
  · obtain ⟨l1, l2, ps, qs, n, rfl, pl1, pl2, ok1, ok2, hn, ne1, ne2, q⟩ := h
    refine ⟨_, (pss_cons (ps_par (i := 4) (j := 5) (by rfl) sc_alike_from.nd rfl rfl (by decide) rfl rfl (pa_cons (C8.pe_c (c_sizes_of T) hr (by decide) (by rfl) (pa_cons (pv 0) pa_nil)) (pa_cons (C8.pe_c (c_sizes_of T) hr (by decide) (by rfl) (pa_cons (pv 2) pa_nil)) pa_nil)) (by rfl))
    (pss_cons (ps_asg (C8.pe_c (c_place_within T) hr (by decide) (by rfl) (pa_cons (pv 4) (pa_cons (pv 1) pa_nil))) (pg_two (K := K) (i := 6) (j := 7) rfl rfl sc_alike_from.nd rfl rfl (Or.inl rfl) (Or.inl rfl)))
    (pss_cons (ps_asg (C8.pe_c (c_place_within T) hr (by decide) (by rfl) (pa_cons (pv 5) (pa_cons (pv 3) pa_nil))) (pg_two (K := K) (i := 8) (j := 9) rfl rfl sc_alike_from.nd rfl rfl (Or.inl rfl) (Or.inl rfl)))
    (pss_cons (ps_set (i := 10) sc_alike_from.nd rfl (Or.inl rfl) pe_int)
    (pss_cons (ps_while PassesOwn.never (PW.pt (pw_and (pt_cmpR op_lt (pv 6) (pe_callB call_len_seq (by rfl) T.m_len (by decide +kernel) (pa_cons (pv 0) pa_nil)) (nomark _)) (pw_and1 (pt_cmpR op_lt (pv 8) (pe_callB call_len_seq (by rfl) T.m_len (by decide +kernel) (pa_cons (pv 2) pa_nil)) (nomark _)))))
    (pss_cons (ps_set (i := 11) sc_alike_from.nd rfl (Or.inl rfl) (pe_callB (call_min2 rfl) (by rfl) T.m_min (by decide +kernel) (pa_cons (pv 7) (pa_cons (pv 9) pa_nil))))
    (pss_cons (ps_set (i := 12) sc_alike_from.nd rfl (Or.inl rfl) (pe_callB (call_min2 rfl) (by rfl) T.m_min (by decide +kernel) (pa_cons (pv 11) (pa_cons (pe_op op_add (pe_callB call_len_str (by rfl) T.m_len (by decide +kernel) (pa_cons (pe_ix ix_tup (pe_ix ix_list (pv 0) (pv 6) (fun _ _ => rfl)) pe_int (fun _ _ => rfl)) pa_nil)) (pe_callB call_len_str (by rfl) T.m_len (by decide +kernel) (pa_cons (pe_ix ix_tup (pe_ix ix_list (pv 2) (pv 8) (fun _ _ => rfl)) pe_int (fun _ _ => rfl)) pa_nil))) pa_nil))))
    (pss_cons (ps_set (i := 13) sc_alike_from.nd rfl (Or.inl rfl) (C8.pe_c (c_alike_ahead T) hr (by decide) (by rfl) (pa_cons (C8.pe_c (c_stretch T) hr (by decide) (by rfl) (pa_cons (pe_ix ix_tup (pe_ix ix_list (pv 0) (pv 6) (fun _ _ => rfl)) pe_int (fun _ _ => rfl)) (pa_cons (pe_un un_neg (pv 7)) (pa_cons (pv 12) pa_nil)))) (pa_cons (C8.pe_c (c_stretch T) hr (by decide) (by rfl) (pa_cons (pe_ix ix_tup (pe_ix ix_list (pv 2) (pv 8) (fun _ _ => rfl)) pe_int (fun _ _ => rfl)) (pa_cons (pe_un un_neg (pv 9)) (pa_cons (pv 12) pa_nil)))) pa_nil))))
    (pss_cons (ps_if (pt_cmpR op_lt (pv 13) (pv 12) (nomark _))
    (pss_one (ps_ret (pe_op op_add (pv 10) (pv 13))))
    pss_nil)
    (pss_cons (ps_aug (i := 10) sc_alike_from.nd rfl (.inl rfl) (pv 11) ip_add)
    (pss_cons (ps_aug (i := 7) sc_alike_from.nd rfl (.inl rfl) (pv 11) ip_sub)
    (pss_cons (ps_aug (i := 9) sc_alike_from.nd rfl (.inl rfl) (pv 11) ip_sub)
    (pss_cons (ps_if (pt_not (pt_truth (pv 7) (by intro _; rfl)))
    (pss_cons (ps_aug (i := 6) sc_alike_from.nd rfl (.inl rfl) pe_int ip_add)
    (pss_one (ps_set (i := 7) sc_alike_from.nd rfl (Or.inl rfl) (pe_ifExp (pt_cmpR op_lt (pv 6) (pe_callB call_len_seq (by rfl) T.m_len (by decide +kernel) (pa_cons (pv 0) pa_nil)) (nomark _)) (pe_ix ix_list (pv 4) (pv 6) (fun _ _ => rfl)) pe_int))))
    pss_nil)
    (pss_one (ps_if (pt_not (pt_truth (pv 9) (by intro _; rfl)))
    (pss_cons (ps_aug (i := 8) sc_alike_from.nd rfl (.inl rfl) pe_int ip_add)
    (pss_one (ps_set (i := 9) sc_alike_from.nd rfl (Or.inl rfl) (pe_ifExp (pt_cmpR op_lt (pv 8) (pe_callB call_len_seq (by rfl) T.m_len (by decide +kernel) (pa_cons (pv 2) pa_nil)) (nomark _)) (pe_ix ix_list (pv 5) (pv 8) (fun _ _ => rfl)) pe_int))))
    pss_nil)))))))))))
    (pss_one (ps_ret (pv 10)))))))), ?_⟩
    refine ⟨_, rfl, l1, ps, n, rfl, pl1, ok1, hn, fun e1 H1 s1 hE1 => ?_⟩
    refine ⟨_, rfl, l2, qs, n, rfl, pl2.same s1, ok2, hn, fun e2 H2 s2 hE2 => ⟨_, _, rfl, ?_⟩⟩
    have pos1 : ∀ x ∈ ps.map plen, 0 < x := fun x hx => by
      obtain ⟨p, hp, rfl⟩ := List.mem_map.mp hx
      exact Nat.mul_pos (List.length_pos_iff.mpr (ne1 p hp).1) (Nat.pos_of_ne_zero (ne1 p hp).2)
    have pos2 : ∀ x ∈ qs.map plen, 0 < x := fun x hx => by
      obtain ⟨p, hp, rfl⟩ := List.mem_map.mp hx
      exact Nat.mul_pos (List.length_pos_iff.mpr (ne2 p hp).1) (Nat.pos_of_ne_zero (ne2 p hp).2)
    have lk1 := ok1.len
    have lk2 := ok2.len
    have hE12 := s2 _ _ hE1
    refine ⟨_, rfl, _, rfl, e1, ps.map plen, rfl, hE12, pos1, by rw [List.length_map]; omega, fun t3 H3 s3 ht3 => ?_⟩
    refine ⟨t3, _, rfl, .inl (.inl ht3), rfl, _, _, rfl, _, _, rfl, rfl, ?_⟩
    have hE23 : NatL H3 e2 (qs.map plen) := s3 _ _ hE2
    refine ⟨_, rfl, _, rfl, e2, qs.map plen, rfl, hE23, pos2, by rw [List.length_map]; omega, fun t4 H4 s4 ht4 => ?_⟩
    refine ⟨t4, _, rfl, .inl (.inl ht4), rfl, _, _, rfl, _, _, rfl, rfl, ?_⟩
    have s04 := ((s1.trans s2).trans s3).trans s4
    have hE1' := s4 _ _ (s3 _ _ hE12)
    have hE2' := s4 _ _ hE23
    obtain ⟨vs1, hl1, hv1⟩ := pl1
    obtain ⟨vs2, hl2, hv2⟩ := pl2
    have len1 := hv1.len
    have len2 := hv2.len
    refine while_by (fun σ H' => Same H4 H' ∧ ∃ (i r1 j r2 t : Nat) (y1 y2 y3 : Option V), σ = [some (.ref l1), some (.int 0), some (.ref l2), some (.int 0), some (.ref e1), some (.ref e2), some (.int (i : Nat)), some (.int (r1 : Nat)), some (.int (j : Nat)), some (.int (r2 : Nat)), some (.int (t : Nat)), y1, y2, y3] ∧ At ps i r1 ∧ At qs j r2 ∧ t + WM.lcp (restW ps i r1) (restW qs j r2) = WM.lcp (wr ps) (wr qs))
      (fun σ _ => match σ with | [_, _, _, _, _, _, some (.int i), _, some (.int j), _, _, _, _, _] => (ps.length - i.toNat) + (qs.length - j.toNat) | _ => 0) ?_ (fun σ H' p => ?_) ?_
    · refine ⟨Same.refl _, 0, (ps.map plen).headD 0, 0, (qs.map plen).headD 0, 0, none, none, none, rfl, ?_, ?_, ?_⟩
      · rw [hd_get]; exact At.start ne1 (Nat.zero_le _)
      · rw [hd_get]; exact At.start ne2 (Nat.zero_le _)
      · rw [hd_get, hd_get, restW_start ne1, restW_start ne2, Nat.zero_add, List.drop_zero, List.drop_zero]
    · obtain ⟨s5, i, r1, j, r2, t, y1, y2, y3, rfl, a1, a2, et⟩ := p
      have s05 := s04.trans s5
      have g1 := s05 _ _ hl1
      have g2 := s05 _ _ hl2
      have h1 := s5 _ _ hE1'
      have h2 := s5 _ _ hE2'
      have stop : (restW ps i r1 = [] ∨ restW qs j r2 = []) → t = WM.lcp (wr ps) (wr qs) := fun z => by
        have := WM.lcp_le (restW ps i r1) (restW qs j r2)
        rcases z with z | z <;> rw [z] at this et <;> rw [List.length_nil] at this <;> omega
      refine ⟨_, rfl, _, rfl, l1, _, rfl, .inl (.inl (.inl g1)), _, _, rfl, rfl, _, rfl, ite2 (fun c1 => ?_) (fun c1 => ?_)⟩
      · have hi : i < ps.length := by
          have := of_decide_eq_true c1
          omega
        refine ⟨_, rfl, _, rfl, l2, _, rfl, .inl (.inl (.inl g2)), _, _, rfl, rfl, _, rfl, ite2 (fun c2 => ?_) (fun c2 => ?_)⟩
        · have hj : j < qs.length := by
            have := of_decide_eq_true c2
            omega
          have hpi := List.getElem?_eq_getElem hi
          have hqj := List.getElem?_eq_getElem hj
          generalize ps[i] = p at hpi
          generalize qs[j] = p' at hqj
          obtain ⟨a, hva, ha⟩ := hv1.at hpi
          obtain ⟨b, hvb, hb⟩ := hv2.at hqj
          replace ha := s05 _ _ ha
          replace hb := s05 _ _ hb
          have mp := List.mem_of_getElem? hpi
          have mq := List.mem_of_getElem? hqj
          have wp := (ok1.word p mp).1
          have wq := (ok2.word p' mq).1
          have tp := ok1.times hn mp
          have tq := ok2.times hn mq
          have np := (ne1 p mp).1
          have nq := (ne2 p' mq).1
          have p0 := a1.pos hi
          have q0 := a2.pos hj
          have pt := a1.top p hpi
          have qt := a2.top p' hqj
          have small : ∀ {p : Pc} {r : Nat}, p.1.length ≤ 1000 → p.2 < 2 ^ 300 → r ≤ plen p → r < 2 ^ 400 := fun {p r} x1 x2 x3 => by
            have : p.1.length * p.2 ≤ 1000 * 2 ^ 300 := Nat.mul_le_mul x1 (Nat.le_of_lt x2)
            have e : plen p = p.1.length * p.2 := rfl
            omega
          have sp := small wp tp pt
          have sq := small wq tq qt
          refine ⟨_, rfl, _, rfl, _, _, rfl, ?_⟩
          dsimp only
          rw [min_int]
          generalize hs : min r1 r2 = size
          refine ⟨_, rfl, _, rfl, _, rfl, l1, _, _, _, rfl, rfl, .inl (.inl g1), atI_nat (j := i) hva, a, _, _, _, rfl, rfl, .inl (.inl ha), rfl, S p.1, rfl, K39.len_line (by omega), _, rfl, _, rfl, l2, _, _, _, rfl, rfl, .inl (.inl g2), atI_nat (j := j) hvb, b, _, _, _, rfl, rfl, .inl (.inl hb), rfl, S p'.1, rfl, K39.len_line (by omega), _, _, rfl, rfl, _, _, rfl, ?_⟩
          dsimp only
          rw [S_len, S_len, ← Int.natCast_add, min_int]
          generalize hk : min size (p.1.length + p'.1.length) = look
          have T := WM.turn (u := p.1) (v := p'.1) (A := wr (ps.drop (i + 1))) (B := wr (qs.drop (j + 1))) np nq hs.symm hk.symm
          rw [← restW_at hpi, ← restW_at hqj, ← restW_at hpi, ← restW_at hqj] at T
          refine ⟨_, rfl, _, rfl, l1, _, _, _, rfl, rfl, .inl (.inl g1), atI_nat (j := i) hva, a, _, _, _, rfl, rfl, .inl (.inl ha), rfl, _, rfl, _, rfl, _, rfl, p.1, r1, look, rfl, np, by omega, by omega, by omega, sp, ?_⟩
          refine ⟨_, rfl, _, rfl, l2, _, _, _, rfl, rfl, .inl (.inl g2), atI_nat (j := j) hvb, b, _, _, _, rfl, rfl, .inl (.inl hb), rfl, _, rfl, _, rfl, _, rfl, p'.1, r2, look, rfl, nq, by omega, by omega, by omega, sq, ?_⟩
          refine ⟨_, _, rfl, by rw [List.length_take]; omega, by rw [List.length_take]; omega, ?_⟩
          generalize WM.lcp (List.take look (NM.tailE p.1 r1)) (List.take look (NM.tailE p'.1 r2)) = same at T ⊢
          obtain ⟨T1, T2⟩ := T
          refine ⟨_, rfl, _, rfl, _, _, rfl, rfl, _, rfl, ite2 (fun c3 => ?_) (fun c3 => ?_)⟩
          · have lt : same < look := by
              have := of_decide_eq_true c3
              omega
            refine ⟨_, rfl, _, rfl, _, _, rfl, rfl, ?_⟩
            dsimp only
            rw [← Int.natCast_add, show t + same = WM.lcp (wr ps) (wr qs) by rw [← et, T1 lt]]
            exact q _ s05
          · have ge : ¬ same < look := fun z => c3 (decide_eq_true (by omega))
            have et2 := T2 ge
            show tNext _ _ _
            unfold tNext
            refine ⟨_, rfl, _, rfl, _, _, rfl, rfl, _, rfl, _, rfl, _, _, rfl, rfl, _, rfl, _, rfl, _, _, rfl, rfl, ?_⟩
            dsimp only
            rw [← Int.natCast_add, show ((r1 : Int) - (size : Int)) = ((r1 - size : Nat) : Int) by omega, show ((r2 : Int) - (size : Int)) = ((r2 - size : Nat) : Int) by omega]
            generalize hx1 : r1 - size = x1 at et2 ⊢
            generalize hx2 : r2 - size = x2 at et2 ⊢
            have zz : x1 = 0 ∨ x2 = 0 := by omega
            have or1 : x1 ≤ plen p := by omega
            have or2 : x2 ≤ plen p' := by omega
            generalize ht : t + size = t1
            have et3 : t1 + WM.lcp (restW ps i x1) (restW qs j x2) = WM.lcp (wr ps) (wr qs) := by omega
            refine join1 (fun σ' H5 => Same H' H5 ∧ ∃ i' r' : Nat, σ' = [some (.ref l1), some (.int 0), some (.ref l2), some (.int 0), some (.ref e1), some (.ref e2), some (.int (i' : Nat)), some (.int (r' : Nat)), some (.int (j : Nat)), some (.int (x2 : Nat)), some (.int (t1 : Nat)), some (.int (size : Nat)), some (.int (look : Nat)), some (.int (same : Nat))] ∧ At ps i' r' ∧ restW ps i x1 = restW ps i' r' ∧ ps.length - i' ≤ ps.length - i ∧ (x1 = 0 → ps.length - i' < ps.length - i)) (fun σ' H5 pre => ?_) (fun U hU => ?_)
            · obtain ⟨s6, i', r', rfl, a1', e1', le1, lt1⟩ := pre
              rw [e1'] at et3
              have g1' := s6 _ _ g1
              have g2' := s6 _ _ g2
              have h2' := s6 _ _ h2
              refine if_end (!((x2 : Int) != 0)) (fun R hR => ⟨_, rfl, _, rfl, hR _ (Same.refl _)⟩) (fun z H6 s7 => ?_) (fun z H6 s7 => ?_)
              · have x0 : x2 = 0 := by simp at z; omega
                subst x0
                have nx := nextAt ne2 hj
                have g2'' := s7 _ _ g2'
                have h2'' := s7 _ _ h2'
                refine ⟨_, rfl, _, _, rfl, rfl, _, rfl, _, rfl, l2, _, rfl, .inl (.inl (.inl g2'')), _, _, rfl, rfl, _, rfl, ite2 (fun c4 => ?_) (fun c4 => ?_)⟩
                · have hj' : j + 1 < qs.length := by
                    have := of_decide_eq_true c4
                    dsimp only at this
                    omega
                  refine ⟨_, rfl, _, rfl, e2, _, _, _, rfl, rfl, .inl (.inl h2''), atI_nat (j := j + 1) (nat_at (by rw [List.length_map]; exact hj')), ⟨(s5.trans s6).trans s7, i', r', j + 1, _, t1, _, _, _, rfl, a1', nx.1, by rw [← nx.2]; exact et3⟩, ?_⟩
                  show ps.length - ((i' : Nat) : Int).toNat + (qs.length - ((j : Int) + 1).toNat) < ps.length - ((i : Nat) : Int).toNat + (qs.length - (j : Int).toNat)
                  omega
                · have hj' : ¬ j + 1 < qs.length := fun z => c4 (decide_eq_true (by dsimp only; omega))
                  refine ⟨⟨(s5.trans s6).trans s7, i', r', j + 1, 0, t1, _, _, _, rfl, a1', ⟨by omega, fun z => absurd z hj', fun p e => ?_⟩, ?_⟩, ?_⟩
                  · rw [List.getElem?_eq_none (by omega)] at e
                    cases e
                  · rw [restW_none (i := j + 1) (by omega)]
                    rw [nx.2, restW_none (i := j + 1) (by omega)] at et3
                    exact et3
                  · show ps.length - ((i' : Nat) : Int).toNat + (qs.length - ((j : Int) + 1).toNat) < ps.length - ((i : Nat) : Int).toNat + (qs.length - (j : Int).toNat)
                    omega
              · have x0 : x2 ≠ 0 := by simp at z; omega
                have l1' := lt1 (by omega)
                refine ⟨⟨(s5.trans s6).trans s7, i', r', j, x2, t1, _, _, _, rfl, a1', ⟨a2.le, fun _ => Nat.pos_of_ne_zero x0, fun p2 e => by rw [hqj] at e; cases e; exact or2⟩, et3⟩, ?_⟩
                show ps.length - ((i' : Nat) : Int).toNat + (qs.length - (j : Int).toNat) < ps.length - ((i : Nat) : Int).toNat + (qs.length - (j : Int).toNat)
                omega
            · refine if_dec (!((x1 : Int) != 0)) (fun R hR => ⟨_, rfl, _, rfl, hR _ (Same.refl _)⟩) (fun z H5 s6 => ?_) (fun z H5 s6 => ?_)
              · have x0 : x1 = 0 := by simp at z; omega
                subst x0
                have nx := nextAt ne1 hi
                have g1' := s6 _ _ g1
                have h1' := s6 _ _ h1
                refine ⟨_, rfl, _, _, rfl, rfl, _, rfl, _, rfl, l1, _, rfl, .inl (.inl (.inl g1')), _, _, rfl, rfl, _, rfl, ite2 (fun c4 => ?_) (fun c4 => ?_)⟩
                · have hi' : i + 1 < ps.length := by
                    have := of_decide_eq_true c4
                    dsimp only at this
                    omega
                  exact ⟨_, rfl, _, rfl, e1, _, _, _, rfl, rfl, .inl (.inl h1'), atI_nat (j := i + 1) (nat_at (by rw [List.length_map]; exact hi')), hU _ _ ⟨s6, i + 1, _, rfl, nx.1, nx.2, by omega, fun _ => by omega⟩⟩
                · have hi' : ¬ i + 1 < ps.length := fun z => c4 (decide_eq_true (by dsimp only; omega))
                  refine hU _ _ ⟨s6, i + 1, 0, rfl, ⟨by omega, fun z => absurd z hi', fun p e => ?_⟩, ?_, by omega, fun _ => by omega⟩
                  · rw [List.getElem?_eq_none (by omega)] at e
                    cases e
                  · rw [restW_none (i := i + 1) (by omega), nx.2, restW_none (by omega)]
              · have x0 : x1 ≠ 0 := by simp at z; omega
                exact hU _ _ ⟨s6, i, x1, rfl, ⟨a1.le, fun _ => Nat.pos_of_ne_zero x0, fun p2 e => by rw [hpi] at e; cases e; exact or1⟩, rfl, Nat.le_refl _, fun e => absurd e x0⟩
        · have hj : qs.length ≤ j := by
            have : ¬ (j : Int) < _ := fun z => c2 (decide_eq_true z)
            omega
          refine ⟨_, rfl, ?_⟩
          dsimp only
          rw [stop (.inr (restW_none hj _))]
          exact q _ s05
      · have hi : ps.length ≤ i := by
          have : ¬ (i : Int) < _ := fun z => c1 (decide_eq_true z)
          omega
        refine iteF ⟨_, rfl, ?_⟩
        dsimp only
        rw [stop (.inl (restW_none hi _))]
        exact q _ s05
    · refine tAnd_mono (fun σ H' Q1 Q2 hq h => ?_) (fun σ H' Q1 Q2 hq h => ?_)
      all_goals
        obtain ⟨a, ha, b, hb, x, y, e1, e2, k, l, e4, e5, z, e3, h⟩ := h
        exact ⟨a, ha, b, hb, x, y, e1, e2, k, l, e4, e5, z, e3, hq _ _ h⟩
end
end K39K

set_option Elab.async false
set_option linter.all false
set_option maxRecDepth 100000
set_option maxHeartbeats 4000000
namespace K39K
open K39 PySem PySem.Spec PyProof.Rows L2 CK SX KM
section
variable {P : Program} {w : World} {K : PySem.W.Frag} {mg : Str → Option Value} {base : Heap} {C CO : Addr}
def sp_agree (C : Addr) : Sp := fun vs H Q _ => ∃ (a b : Addr) (ps qs : List Pc) (n : Nat), vs = [.ref a, .ref b] ∧ KW C H a ps ∧ KW C H b qs ∧ OK n ps ∧ OK n qs ∧ n ≤ 1000 ∧ (∀ p ∈ ps, p.1 ≠ [] ∧ p.2 ≠ 0) ∧ (∀ p ∈ qs, p.1 ≠ [] ∧ p.2 ≠ 0) ∧ ∀ H', Same H H' → Q (.int (WM.lcp (wr ps) (wr qs) : Nat)) H'
theorem c_agree (T : Txt K mg C CO) : C8.Cal P w K mg base 4 "agree" (sp_agree C) [] := by
  refine calF T.d_agree sc_agree (fun vs H Q E h => ?_) (fun f cdv A outer s H vs Q E hr h => ?_)
  · obtain ⟨_, _, _, _, _, rfl, _⟩ := h; rfl
  · obtain ⟨a, b, ps, qs, n, rfl, ka, kb, oa, ob, hn, na, nb, q⟩ := h
    obtain ⟨dx, l, e, ha, hl, he⟩ := id ka
    obtain ⟨dy, l', e', hb, hl', he'⟩ := id kb
    refine ⟨_, (pss_cons (ps_expr (C8.pe_c (c_need_kept T) hr (by decide) (by rfl) (pa_cons (pv 0) pa_nil)))
    (pss_cons (ps_expr (C8.pe_c (c_need_kept T) hr (by decide) (by rfl) (pa_cons (pv 1) pa_nil)))
    (pss_one (ps_ret (C8.pe_c (c_alike_from T) hr (by decide) (by rfl) (pa_cons (C8.pe_mt0 (m_KeptWord_pieces T) hr (by decide) (pv 0)) (pa_cons pe_int (pa_cons (C8.pe_mt0 (m_KeptWord_pieces T) hr (by decide) (pv 1)) (pa_cons pe_int pa_nil))))))))), ?_⟩
    refine ⟨_, rfl, a, ps, rfl, ka, _, rfl, b, qs, rfl, kb, ?_⟩
    refine ⟨_, rfl, a, dx, _, rfl, ha, kf_no l e (by decide +kernel) (by decide +kernel), a, ps, rfl, ka, fun l1 H1 s1 n1 pl1 => ?_⟩
    refine ⟨_, rfl, b, dy, _, rfl, s1 _ _ hb, kf_no l' e' (by decide +kernel) (by decide +kernel), b, qs, rfl, kb.same s1, fun l2 H2 s2 n2 pl2 => ?_⟩
    exact ⟨l1, l2, ps, qs, n, rfl, pl1.same s2, pl2, oa, ob, hn, na, nb, fun H3 s3 => q H3 ((s1.trans s2).trans s3)⟩
/-- how two words stand: none of both goes on, one does, or they part -/
def ord (x y : List Nat) : Int := if WM.lcp x y = x.length ∨ WM.lcp x y = y.length then b2i (decide (WM.lcp x y < x.length)) - b2i (decide (WM.lcp x y < y.length)) else if decide ((S [x.getD (WM.lcp x y) 0]).cps.toList < (S [y.getD (WM.lcp x y) 0]).cps.toList) = true then -1 else 1
theorem ord_zero (x y : List Nat) : decide (ord x y = 0) = decide (x = y) := by
  refine decide_eq_decide.mpr ⟨fun h => ?_, fun h => ?_⟩
  · have le := WM.lcp_le x y
    have t := WM.lcp_take x y _ (Nat.le_refl _)
    unfold ord at h
    by_cases c : WM.lcp x y = x.length ∨ WM.lcp x y = y.length
    · rw [if_pos c] at h
      have e1 : WM.lcp x y = x.length ∧ WM.lcp x y = y.length := by
        by_cases c1 : WM.lcp x y < x.length <;> by_cases c2 : WM.lcp x y < y.length
        · omega
        · rw [decide_eq_true c1, decide_eq_false c2] at h
          exact absurd h (by decide)
        · rw [decide_eq_false c1, decide_eq_true c2] at h
          exact absurd h (by decide)
        · omega
      rw [List.take_of_length_le (by omega), List.take_of_length_le (by omega)] at t
      exact t
    · rw [if_neg c] at h
      split at h <;> exact absurd h (by decide)
  · subst h
    have l := WM.le_lcp x x x.length (Nat.le_refl _) (Nat.le_refl _) rfl
    have le := WM.lcp_le x x
    unfold ord
    rw [if_pos (.inl (by omega)), Int.sub_self]
def sp_compare (C : Addr) : Sp := fun vs H Q _ => ∃ (a b : Addr) (ps qs : List Pc) (n : Nat), vs = [.ref a, .ref b] ∧ KW C H a ps ∧ KW C H b qs ∧ OK n ps ∧ OK n qs ∧ n ≤ 1000 ∧ (∀ p ∈ ps, p.1 ≠ [] ∧ p.2 ≠ 0) ∧ (∀ p ∈ qs, p.1 ≠ [] ∧ p.2 ≠ 0) ∧ ∀ H', Same H H' → Q (.int (ord (wr ps) (wr qs))) H'
theorem c_compare (T : Txt K mg C CO) : C8.Cal P w K mg base 5 "compare" (sp_compare C) [] := by
  refine calF T.d_compare sc_compare (fun vs H Q E h => ?_) (fun f cdv A outer s H vs Q E hr h => ?_)
  · obtain ⟨_, _, _, _, _, rfl, _⟩ := h; rfl
  · obtain ⟨a, b, ps, qs, n, rfl, ka, kb, oa, ob, hn, na, nb, q⟩ := h
    refine ⟨_, (pss_cons (ps_set (i := 2) sc_compare.nd rfl (Or.inl rfl) (C8.pe_c (c_agree T) hr (by decide) (by rfl) (pa_cons (pv 0) (pa_cons (pv 1) pa_nil))))
    (pss_cons (ps_if (PW.pt (pw_or (pt_cmpR op_eq (pv 2) (C8.pe_mt0 (m_KeptWord_length T) hr (by decide) (pv 0)) (nomark _)) (pw_or1 (pt_cmpR op_eq (pv 2) (C8.pe_mt0 (m_KeptWord_length T) hr (by decide) (pv 1)) (nomark _)))))
    (pss_one (ps_ret (pe_op op_subB (pe_cmpR op_gt (C8.pe_mt0 (m_KeptWord_length T) hr (by decide) (pv 0)) (pv 2) (nomark _)) (pe_cmpR op_gt (C8.pe_mt0 (m_KeptWord_length T) hr (by decide) (pv 1)) (pv 2) (nomark _)))))
    pss_nil)
    (pss_one (ps_ret (pe_ifExp (pt_cmpR op_lt_str (C8.pe_mt (m_KeptWord_letter T) hr (by decide) (pv 0) (pa_cons (pv 2) pa_nil)) (C8.pe_mt (m_KeptWord_letter T) hr (by decide) (pv 1) (pa_cons (pv 2) pa_nil)) (nomark _)) (pe_un un_neg pe_int) pe_int))))), ?_⟩
    refine ⟨_, rfl, _, rfl, a, b, ps, qs, n, rfl, ka, kb, oa, ob, hn, na, nb, fun H1 s1 => ?_⟩
    have ka1 := ka.same s1
    have kb1 := kb.same s1
    obtain ⟨dx, l, e, ha, hl, he⟩ := id ka1
    obtain ⟨dy, l', e', hb, hl', he'⟩ := id kb1
    have le := WM.lcp_le (wr ps) (wr qs)
    have g := q H1 s1
    unfold ord at g
    have gl := wr_len ps
    have gl' := wr_len qs
    refine ⟨_, rfl, _, rfl, a, dx, _, rfl, ha, kf_no l e (by decide +kernel) (by decide +kernel), a, ps, rfl, ka1, ?_⟩
    have fin : (WM.lcp (wr ps) (wr qs) = (wr ps).length ∨ WM.lcp (wr ps) (wr qs) = (wr qs).length) → (tRet
                          (tOp (fun x y H Q => ∃ a b, x = V.bl a ∧ y = V.bl b ∧ Q (V.int (b2i a - b2i b)) H)
                            (tOp (rI0 fun i j => V.bl (decide (j < i)))
                              (tMeth C (Str.ofString "length") (sp_length C) [] C8.E0 (tVar 0) tNil) (tVar 2))
                            (tOp (rI0 fun i j => V.bl (decide (j < i)))
                              (tMeth C (Str.ofString "length") (sp_length C) [] C8.E0 (tVar 1) tNil) (tVar 2)))) ⟨fun _ _ => True, Q, fun _ _ => True, fun _ _ => True⟩ [some (.ref a), some (.ref b), some (.int (WM.lcp (wr ps) (wr qs) : Nat))] H1 := fun c => by
      rw [if_pos c] at g
      refine ⟨_, rfl, a, dx, _, rfl, ha, kf_no l e (by decide +kernel) (by decide +kernel), a, ps, rfl, ka1, _, rfl, _, _, rfl, rfl, ?_⟩
      refine ⟨_, rfl, b, dy, _, rfl, hb, kf_no l' e' (by decide +kernel) (by decide +kernel), b, qs, rfl, kb1, _, rfl, _, _, rfl, rfl, _, _, rfl, rfl, ?_⟩
      rw [show decide (((WM.lcp (wr ps) (wr qs) : Nat) : Int) < (long ps : Nat)) = decide (WM.lcp (wr ps) (wr qs) < (wr ps).length) from decide_eq_decide.mpr (by omega), show decide (((WM.lcp (wr ps) (wr qs) : Nat) : Int) < (long qs : Nat)) = decide (WM.lcp (wr ps) (wr qs) < (wr qs).length) from decide_eq_decide.mpr (by omega)]
      exact g
    refine ⟨rfl, _, rfl, ite2 (fun c1 => iteT ?_) (fun c1 => ?_)⟩
    · have e1 := V.int.inj (of_decide_eq_true c1)
      exact fin (.inl (by omega))
    · refine ⟨_, rfl, _, rfl, b, dy, _, rfl, hb, kf_no l' e' (by decide +kernel) (by decide +kernel), b, qs, rfl, kb1, rfl, _, rfl, ite2 (fun c2 => ?_) (fun c2 => ?_)⟩
      · have e1 := V.int.inj (of_decide_eq_true c2)
        exact fin (.inr (by omega))
      · have n1 : WM.lcp (wr ps) (wr qs) ≠ long ps := fun z => c1 (decide_eq_true (by rw [z]))
        have n2 : WM.lcp (wr ps) (wr qs) ≠ long qs := fun z => c2 (decide_eq_true (by rw [z]))
        rw [if_neg (by omega)] at g
        have i1 : (wr ps)[WM.lcp (wr ps) (wr qs)]? = some ((wr ps).getD (WM.lcp (wr ps) (wr qs)) 0) := by
          rw [List.getD_eq_getElem?_getD, List.getElem?_eq_getElem (by omega)]; rfl
        have i2 : (wr qs)[WM.lcp (wr ps) (wr qs)]? = some ((wr qs).getD (WM.lcp (wr ps) (wr qs)) 0) := by
          rw [List.getD_eq_getElem?_getD, List.getElem?_eq_getElem (by omega)]; rfl
        refine ⟨_, rfl, a, dx, _, rfl, ha, kf_no l e (by decide +kernel) (by decide +kernel), _, rfl, a, ps, n, _, _, rfl, ka1, oa, hn, i1, ?_⟩
        refine ⟨_, rfl, b, dy, _, rfl, hb, kf_no l' e' (by decide +kernel) (by decide +kernel), _, rfl, b, qs, n, _, _, rfl, kb1, ob, hn, i2, _, _, rfl, rfl, _, rfl, ?_⟩
        refine ite2 (fun c3 => ?_) (fun c3 => ?_)
        · rw [if_pos c3] at g
          exact ⟨_, rfl, g⟩
        · rw [if_neg c3] at g
          exact g
def sp_same (C : Addr) : Sp := fun vs H Q _ => ∃ (a b : Addr) (ps qs : List Pc) (n : Nat), vs = [.ref a, .ref b] ∧ KW C H a ps ∧ KW C H b qs ∧ OK n ps ∧ OK n qs ∧ n ≤ 1000 ∧ (∀ p ∈ ps, p.1 ≠ [] ∧ p.2 ≠ 0) ∧ (∀ p ∈ qs, p.1 ≠ [] ∧ p.2 ≠ 0) ∧ ∀ H', Same H H' → Q (.bl (decide (wr ps = wr qs))) H'
theorem c_same_kept (T : Txt K mg C CO) : C8.Cal P w K mg base 6 "same_kept" (sp_same C) [] := by
  refine calF T.d_same_kept sc_same_kept (fun vs H Q E h => ?_) (fun f cdv A outer s H vs Q E hr h => ?_)
  · obtain ⟨_, _, _, _, _, rfl, _⟩ := h; rfl
  · obtain ⟨a, b, ps, qs, n, rfl, ka, kb, oa, ob, hn, na, nb, q⟩ := h
    refine ⟨_, (pss_one (ps_ret (pe_cmpR op_eq (C8.pe_c (c_compare T) hr (by decide) (by rfl) (pa_cons (pv 0) (pa_cons (pv 1) pa_nil))) pe_int (nomark _)))), ?_⟩
    refine ⟨_, rfl, _, rfl, a, b, ps, qs, n, rfl, ka, kb, oa, ob, hn, na, nb, fun H1 s1 => ⟨rfl, ?_⟩⟩
    have := q H1 s1
    rw [← ord_zero] at this
    show Q (V.bl (decide (V.int (ord (wr ps) (wr qs)) = V.int 0))) H1
    rw [show decide (V.int (ord (wr ps) (wr qs)) = V.int 0) = decide (ord (wr ps) (wr qs) = 0) from decide_eq_decide.mpr ⟨V.int.inj, congrArg V.int⟩]
    exact this
end
end K39K

set_option Elab.async false
set_option linter.all false
set_option maxRecDepth 100000
set_option maxHeartbeats 4000000
namespace K39K
open K39 PySem PySem.Spec PyProof.Rows L2 CK SX KM
/-- the pieces with the values of their forms at a point -/
def atP (pt : List Nat) (ps : List NM.Pn) : List Pc := ps.map fun p => (p.1, NM.valF p.2 pt)
theorem wr_atP (pt : List Nat) : ∀ ps : List NM.Pn, wr (atP pt ps) = NM.wr pt ps
  | [] => rfl
  | p :: r => by
    show WM.pw p.1 (NM.valF p.2 pt) ++ wr (atP pt r) = NM.wrt pt p ++ NM.wr pt r
    rw [wr_atP pt r]
    rfl
theorem pcs_ns {H : Hp} {vs : List V} {xs : List (List Nat × Nat)} (h : Ns H vs xs) : Pcs H vs xs := by
  induction h with
  | nil => exact .nil
  | cons e _ ih => exact .cons e ih
section
variable {P : Program} {w : World} {K : PySem.W.Frag} {mg : Str → Option Value} {base : Heap} {C CO : Addr}
def sp_kept (C CO : Addr) : Sp := fun vs H Q _ => ∃ (a pa : Addr) (m n : Nat) (ps : List NM.Pn) (pt : List Nat), vs = [.ref a, .ref pa] ∧ OT CO H a m ps ∧ LP H pa pt ∧ pt.length = m ∧ m ≤ 3 ∧ Bf pt ∧ OK n (atP pt ps) ∧ n ≤ 1000 ∧ ∀ p H', Same H H' → KW C H' p (tidy (atP pt ps)) → Q (.ref p) H'
theorem c_kept (T : Txt K mg C CO) : C8.Cal P w K mg base 7 "kept" (sp_kept C CO) [] := by
  refine calF T.d_kept sc_kept (fun vs H Q E h => ?_) (fun f cdv A outer s H vs Q E hr h => ?_)
  · obtain ⟨_, _, _, _, _, _, rfl, _⟩ := h; rfl
  · obtain ⟨a, pa, m, n, ps, pt, rfl, oa, hp, lp, m3, bp, ok, hn, q⟩ := h
    obtain ⟨l, ⟨dx, ha⟩, ga⟩ := id oa
    refine ⟨_, (pss_cons (ps_expr (C8.pe_c (c_need_text T) hr (by decide) (by rfl) (pa_cons (pv 0) pa_nil)))
    (pss_cons (ps_expr (C8.pe_c (c_need_point T) hr (by decide) (by rfl) (pa_cons (pv 1) (pa_cons (C8.pe_mt0 (m_OpenText_many T) hr (by decide) (pv 0)) pa_nil))))
    (pss_one (ps_ret (C8.pe_mk (n_KeptWord T) hr (by decide) (by rfl) (pa_cons (C8.pe_c (c_counted T) hr (by decide) (by rfl) (pa_cons (pv 0) (pa_cons (pv 1) pa_nil))) pa_nil)))))), ?_⟩
    refine ⟨_, rfl, a, m, ps, rfl, oa, ?_⟩
    refine ⟨_, rfl, _, rfl, a, dx, _, rfl, ha, (OF_no l m).2, a, m, ps, rfl, oa, pa, m, pt, rfl, hp, lp, m3, fun H1 s1 => ?_⟩
    refine ⟨_, rfl, _, rfl, a, pa, m, ps, pt, rfl, oa.same s1, s1 _ _ hp, lp, m3, bp, fun D us H2 s2 hD hus => ?_⟩
    intro p dy np ndy nex
    have s12 := s1.trans s2
    have npD : p ≠ D := fun z => by rw [z, hD] at np; cases np
    have nyD : dy ≠ D := fun z => by rw [z, hD] at ndy; cases ndy
    have s0 : Same H2 (upd (upd H2 dy (.own p)) p (.ins C dy [])) := fun b o e => by
      rw [upd_ne (ne_of_none e np), upd_ne (ne_of_none e ndy)]
      exact e
    have pl : PL H2 D (atP pt ps) := ⟨us, hD, pcs_ns hus⟩
    refine ⟨p, dy, D, atP pt ps, n, rfl, upd_same, pl.same s0, ok, hn, fun H3 s3 k3 => ⟨rfl, ?_⟩⟩
    refine q p H3 (fun b o e => ?_) k3.kw
    have e2 := s12 _ _ e
    exact s3 _ _ (fun z => by rw [z, np] at e2; cases e2) (s0 _ _ e2)
end
end K39K

set_option Elab.async false
set_option linter.all false
set_option maxRecDepth 100000
set_option maxHeartbeats 4000000
namespace K39
open PySem PySem.Spec PyProof.Rows L2 CK SX NM
theorem tot_le {k : Nat} : ∀ {ps : List Pn}, (∀ p ∈ ps, p.1.length ≤ k) → tot ps ≤ ps.length * k
  | [], _ => Nat.zero_le _
  | p :: r, h => by
    have a := tot_le fun q hq => h q (List.mem_cons_of_mem _ hq)
    have b := h p List.mem_cons_self
    rw [tot_cons, List.length_cons, Nat.succ_mul]
    omega
theorem sum_lens : ∀ ps : List Pn, (ps.map fun p => ((p.1.length : Nat) : Int)).sum = ((tot ps : Nat) : Int)
  | [] => rfl
  | p :: r => by
    rw [List.map_cons, List.sum_cons, sum_lens r, tot_cons]
    omega
section
variable {P : Program} {w : World} {K : PySem.W.Frag} {mg : Str → Option Value} {base : Heap} {CK C : Addr}
def sp_letters_in : Sp := fun vs H Q _ => ∃ (l : Addr) (ps : List Pn), vs = [.ref l] ∧ PL H l ps ∧ ps.length ≤ 5000 ∧ Ws 2000 ps ∧ ∀ H', Same H H' → Q (.int (tot ps : Nat)) H'
theorem c_letters_in (T : Txt K mg CK C) : C8.Cal P w K mg base 2 "letters_in" sp_letters_in [] := by
  refine calF T.d_letters_in sc_letters_in (fun vs H Q E h => ?_) (fun f0 cdv A outer s H vs Q E hr h => ?_)
  · obtain ⟨_, _, rfl, _⟩ := h; rfl
  · obtain ⟨l, ps, rfl, ⟨vs, hl, hp⟩, few, ws, q⟩ := h
    have lv := hp.len
    refine ⟨_, (pss_one (ps_ret (pe_callB (cr_sum rfl) (by rfl) T.m_sum (by decide +kernel) (pa_cons (pe_lc (own := [("word", 1), ("_", 2)]) (by rfl) sc_letters_in.nd (pi_list (pv 0)) (blkOk_by (N := ["pieces", "word", "_"]) (sc := C8.fnScope (topS 65)) (own := [("word", 1), ("_", 2)]) (by decide +kernel)) (fun _ _ _ _ _ => (pg_two (K := K) (i := 1) (j := 2) rfl rfl sc_letters_in.nd rfl rfl (Or.inl rfl) (Or.inl rfl))) (fun _ _ _ _ _ => pts_nil) (fun _ _ _ _ _ => (pe_callB call_len_str (by rfl) T.m_len (by decide +kernel) (pa_cons (pv 1) pa_nil)))) pa_nil)))), ?_⟩
    refine ⟨_, rfl, l, rfl, ⟨_, .inl (.inl hl)⟩, fun D hD => ?_⟩
    refine lc_list (K := K) (a := l) (xs := vs) (fun i H1 => Same H H1 ∧ H1 D = some (.lst ((ps.take i).map fun p => V.int ((p.1.length : Nat) : Int)))) ⟨sameNew hD, upd_same⟩ (fun i H1 _ p => .inl (.inl (p.1 _ _ hl))) (fun i y H1 hi p => ?_) fun H1 p => ?_
    · obtain ⟨s1, hws⟩ := p
      obtain ⟨a, p, rfl, hpi, pc⟩ := hp.get hi
      obtain ⟨fa, e1, e2⟩ := pc.mono (tup_same s1)
      have wp := ws p (List.mem_of_getElem? hpi)
      refine ⟨a, _, rfl, .inl (.inl e1), rfl, _, _, rfl, _, _, rfl, rfl, rfl, ?_⟩
      refine yes_if ⟨_, rfl, S p.1, rfl, len_line (by omega), _, hws, by rw [List.length_map, List.length_take, sizeLine_eq]; omega, same_upd2 hD s1, ?_⟩
      rw [upd_same, List.take_succ, hpi, List.map_append]
      rw [S_len]
      rfl
    · obtain ⟨s1, hws⟩ := p
      rw [lv, List.take_length] at hws
      refine ⟨D, ps.map fun p => ((p.1.length : Nat) : Int), rfl, .inl (.inl (by rw [hws, List.map_map]; rfl)), ?_⟩
      rw [sum_lens]
      exact q H1 s1
def sp_size (C : Addr) : Sp := fun vs H Q _ => ∃ (a : Addr) (m : Nat) (ps : List Pn), vs = [.ref a] ∧ OT C H a m ps ∧ ∀ H', Same H H' → Q (.int (tot ps : Nat)) H'
theorem c_size (T : Txt K mg CK C) : C8.Cal P w K mg base 4 "size" (sp_size C) [] := by
  refine calF T.d_size sc_size (fun vs H Q E h => ?_) (fun f0 cdv A outer s H vs Q E hr h => ?_)
  · obtain ⟨_, _, _, rfl, _⟩ := h; rfl
  · obtain ⟨a, m, ps, rfl, oa, q⟩ := h
    obtain ⟨l, ⟨dx, ha⟩, ga⟩ := id oa
    refine ⟨_, (pss_cons (ps_expr (C8.pe_c (c_need_text T) hr (by decide) (by rfl) (pa_cons (pv 0) pa_nil)))
    (pss_one (ps_ret (C8.pe_c (c_letters_in T) hr (by decide) (by rfl) (pa_cons (C8.pe_mt0 (m_OpenText_pieces T) hr (by decide) (pv 0)) pa_nil))))), ?_⟩
    refine ⟨_, rfl, a, m, ps, rfl, oa, ?_⟩
    refine ⟨_, rfl, a, dx, _, rfl, ha, (OF_no l m).1, a, m, ps, rfl, oa, fun L1 H1 s1 n1 g1 => ?_⟩
    exact ⟨L1, ps, rfl, g1.at_, g1.few, g1.ws, fun H2 s2 => q H2 (s1.trans s2)⟩
end
end K39

set_option linter.all false
set_option maxRecDepth 100000
/-! the counts at which two normal lists of one unknown write the same -/
namespace NM
open WM
def agrL (a b : List Pn) : List Nat := (List.range (max (tot a) (tot b) + 1)).filter fun x => decide (wr [x] a = wr [x] b)
theorem agr_sorted (a b : List Pn) : (agrL a b).Pairwise (· < ·) := List.Pairwise.filter _ List.pairwise_lt_range
theorem agr_le {a b : List Pn} {x : Nat} (h : x ∈ agrL a b) : x ≤ max (tot a) (tot b) := by
  have := List.mem_range.mp (List.mem_filter.mp h).1
  omega
theorem agr_same {a b : List Pn} {x : Nat} (h : x ∈ agrL a b) : wr [x] a = wr [x] b := of_decide_eq_true (List.mem_filter.mp h).2
theorem agr_comm (a b : List Pn) : agrL b a = agrL a b := by
  unfold agrL
  rw [Nat.max_comm]
  congr 1
  funext x
  exact decide_eq_decide.mpr ⟨fun h => h.symm, fun h => h.symm⟩
def bigN (a : List Pn) : Nat := (a.map fun p => p.2.sum).sum
theorem le_big : ∀ {a : List Pn} {p : Pn} {x : Nat}, p ∈ a → x ∈ p.2 → x ≤ bigN a
  | q :: r, p, x, h, hx => by
    have e : bigN (q :: r) = q.2.sum + bigN r := by simp [bigN]
    rw [e]
    rcases List.mem_cons.mp h with rfl | h
    · have := le_sumN hx
      omega
    · have := le_big h hx
      omega
/-- beyond both sizes words are the same only if the lists are -/
theorem agr_far {a b : List Pn} (na : Nm 1 a) (nb : Nm 1 b) {x : Nat} (hx : max (tot a) (tot b) < x) (e : wr [x] a = wr [x] b) : a = b := by
  have d := decide_at (m := 1) (S := max (tot a) (tot b)) (b := bigN a + bigN b + 1) (s := x) na.lenF nb.lenF (by rw [normL_id na]; exact Nat.le_max_left ..) (by rw [normL_id nb]; exact Nat.le_max_right ..)
    (fun p hp _ y hy => by rw [normL_id na] at hp; have := le_big hp (List.mem_of_mem_tail hy); omega)
    (fun p hp _ y hy => by rw [normL_id nb] at hp; have := le_big hp (List.mem_of_mem_tail hy); omega) (by omega) hx
  rw [normL_id na, normL_id nb] at d
  exact d.mp e
theorem agr_mem {a b : List Pn} (na : Nm 1 a) (nb : Nm 1 b) (ne : a ≠ b) (x : Nat) : x ∈ agrL a b ↔ wr [x] a = wr [x] b := by
  refine ⟨agr_same, fun e => List.mem_filter.mpr ⟨List.mem_range.mpr ?_, decide_eq_true e⟩⟩
  by_cases h : max (tot a) (tot b) < x
  · exact absurd (agr_far na nb h e) ne
  · omega
theorem agr_few {a b : List Pn} (na : Nm 1 a) (nb : Nm 1 b) (ne : a ≠ b) : (agrL a b).length ≤ opn a + opn b := by
  refine Nat.le_of_not_lt fun l => ne ?_
  have := agree_few na.lenF nb.lenF (agr_sorted a b) (fun z hz => agr_same hz) (by omega)
  rwa [normL_id na, normL_id nb] at this
theorem wr_scale (x : Nat) : ∀ {a : List Pn}, LenF 1 a → (wr [x] a).length ≤ (wr [1] a).length * (x + 1)
  | [], _ => Nat.zero_le _
  | p :: r, h => by
    have ih := wr_scale x (a := r) fun q hq => h q (List.mem_cons_of_mem _ hq)
    have hl := h p List.mem_cons_self
    obtain ⟨w, f⟩ := p
    obtain ⟨c, n, rfl⟩ : ∃ c n, f = [c, n] := by
      match f, hl with
      | [c, n], _ => exact ⟨c, n, rfl⟩
    have e : ∀ y, (wrt [y] (w, [c, n])).length = w.length * (c + n * y) := fun y => by
      have : (wrt [y] (w, [c, n])).length = w.length * valF [c, n] [y] := pw_len _ _
      rw [this]
      show w.length * (c + (n * y + 0)) = _
      rw [Nat.add_zero]
    rw [wr, wr, List.length_append, List.length_append, e, e, Nat.add_mul, Nat.mul_assoc]
    refine Nat.add_le_add (Nat.mul_le_mul_left _ ?_) ih
    rw [Nat.mul_one, Nat.mul_succ, Nat.add_mul]
    omega
theorem val_scale {f : F} (hl : f.length = 1 + 1) (x : Nat) : valF f [x] = f.getD 0 0 + f.getD 1 0 * x := by
  match f, hl with
  | [c, n], _ => show c + (n * x + 0) = c + n * x; rw [Nat.add_zero]
end NM

set_option Elab.async false
set_option linter.all false
set_option maxRecDepth 100000
set_option maxHeartbeats 8000000
set_option exponentiation.threshold 1000
namespace K39K
open K39 PySem PySem.Spec PyProof.Rows L2 CK SX KM
/-- the normal list of a text of one unknown, within bounds -/
structure Tn (ps : List NM.Pn) : Prop where
  nm : NM.Nm 1 ps
  tot : NM.tot ps ≤ 900
  low : LowP ps
  ones : (NM.wr [1] ps).length ≤ 2 ^ 120
  few : NM.opn ps ≤ 25
theorem tot_mem {p : NM.Pn} : ∀ {ps : List NM.Pn}, p ∈ ps → p.1.length ≤ NM.tot ps
  | q :: r, h => by
    rw [NM.tot_cons]
    rcases List.mem_cons.mp h with rfl | h
    · omega
    · have := tot_mem h
      omega
theorem tot_len : ∀ {ps : List NM.Pn}, (∀ p ∈ ps, p.1 ≠ []) → ps.length ≤ NM.tot ps
  | [], _ => Nat.zero_le _
  | p :: r, h => by
    have a := tot_len fun q hq => h q (List.mem_cons_of_mem _ hq)
    have b := List.length_pos_iff.mpr (h p List.mem_cons_self)
    rw [NM.tot_cons, List.length_cons]
    omega
theorem val_sum {pt : List Nat} : ∀ {ps : List NM.Pn}, (∀ p ∈ ps, p.1 ≠ []) → (ps.map fun p => NM.valF p.2 pt).sum ≤ (NM.wr pt ps).length
  | [], _ => Nat.zero_le _
  | p :: r, h => by
    have a := val_sum (pt := pt) fun q hq => h q (List.mem_cons_of_mem _ hq)
    have b := List.length_pos_iff.mpr (h p List.mem_cons_self)
    have e : (NM.wrt pt p).length = p.1.length * NM.valF p.2 pt := WM.pw_len _ _
    have c : NM.valF p.2 pt ≤ p.1.length * NM.valF p.2 pt := Nat.le_mul_of_pos_left _ b
    rw [List.map_cons, List.sum_cons, NM.wr, List.length_append]
    omega
section
variable {ps : List NM.Pn}
theorem Tn.len (h : Tn ps) : NM.LenF 1 ps := h.nm.lenF
theorem Tn.ne (h : Tn ps) : ∀ p ∈ ps, p.1 ≠ [] := fun p hp => (h.nm.all p hp).ne
theorem Tn.ok (h : Tn ps) {x : Nat} (hx : x ≤ 2 ^ 70) : OK 1000 (atP [x] ps) := by
  have t := h.tot
  refine ⟨by unfold atP; rw [List.length_map]; exact Nat.le_trans (tot_len h.ne) (by omega), fun p hp => ?_, ?_, ?_⟩
  · obtain ⟨q, hq, rfl⟩ := List.mem_map.mp hp
    exact ⟨by have := tot_mem hq; show q.1.length ≤ 1000; omega, h.low q hq⟩
  · unfold atP
    rw [List.map_map]
    have v := val_sum (pt := [x]) h.ne
    have e : (ps.map ((fun x : Pc => x.2) ∘ fun p : NM.Pn => (p.1, NM.valF p.2 [x]))).sum = (ps.map fun p => NM.valF p.2 [x]).sum := rfl
    rw [e]
    refine Nat.le_trans v (Nat.le_trans (NM.wr_scale x h.len) (Nat.le_trans (Nat.mul_le_mul h.ones (show x + 1 ≤ 2 ^ 71 by omega)) ?_))
    decide
  · unfold atP
    rw [List.map_map]
    have e : (ps.map ((fun x : Pc => x.1.length) ∘ fun p : NM.Pn => (p.1, NM.valF p.2 [x]))).sum = NM.tot ps := rfl
    rw [e]
    omega
theorem Tn.wl (h : Tn ps) : Wl 1 ps := Nat.lt_of_le_of_lt h.ones (by decide)
end
theorem bf_one {x : Nat} (hx : x ≤ 2 ^ 70) : Bf [x] := fun n hn => by
  rw [List.mem_singleton.mp hn]
  exact Nat.lt_of_le_of_lt hx (by decide)
/-- lists of one number each, none of them at D -/
inductive Sg (H : Hp) (D : Addr) : List V → List Nat → Prop
  | nil : Sg H D [] []
  | cons {a : Addr} {vs : List V} {x : Nat} {xs : List Nat} : H a = some (.lst [.int (x : Nat)]) → a ≠ D → Sg H D vs xs → Sg H D (.ref a :: vs) (x :: xs)
theorem Sg.mono {H H' : Hp} {D D' : Addr} {vs : List V} {xs : List Nat} (h : Sg H D vs xs) (s : ∀ a x, H a = some (.lst [.int (x : Nat)]) → a ≠ D → H' a = some (.lst [.int (x : Nat)]) ∧ a ≠ D') : Sg H' D' vs xs := by
  induction h with
  | nil => exact .nil
  | cons e n _ ih =>
    obtain ⟨a, b⟩ := s _ _ e n
    exact .cons a b ih
theorem Sg.len {H : Hp} {D : Addr} {vs : List V} {xs : List Nat} (h : Sg H D vs xs) : vs.length = xs.length := by
  induction h with
  | nil => rfl
  | cons _ _ _ ih => simp [ih]
theorem Sg.app {H : Hp} {D : Addr} {vs us : List V} {xs ys : List Nat} (h : Sg H D vs xs) (g : Sg H D us ys) : Sg H D (vs ++ us) (xs ++ ys) := by
  induction h with
  | nil => exact g
  | cons e n _ ih => exact .cons e n ih
theorem Sg.get {H : Hp} {D : Addr} {vs : List V} {xs : List Nat} (h : Sg H D vs xs) {i : Nat} {v : V} (hi : vs[i]? = some v) : ∃ a x, v = .ref a ∧ xs[i]? = some x ∧ H a = some (.lst [.int (x : Nat)]) ∧ a ≠ D := by
  induction h generalizing i with
  | nil => simp at hi
  | cons e n _ ih =>
    cases i with
    | zero =>
      cases hi
      exact ⟨_, _, rfl, rfl, e, n⟩
    | succ i => exact ih hi
theorem max_nat (a b : Nat) : (if (b : Int) > (a : Int) then (b : Int) else (a : Int)) = ((max a b : Nat) : Int) := by
  split <;> omega
theorem filter_snoc {α : Type} {xs : List α} {i : Nat} {x : α} (b : α → Bool) (h : xs[i]? = some x) : (xs.take (i + 1)).filter b = (xs.take i).filter b ++ (if b x = true then [x] else []) := by
  rw [List.take_succ, h, List.filter_append]
  congr 1
  show List.filter b [x] = _
  rw [List.filter_cons, List.filter_nil]
section
variable {P : Program} {w : World} {K : PySem.W.Frag} {mg : Str → Option Value} {base : Heap} {C CO : Addr}
def sp_need_along (CO : Addr) : Sp := fun vs H Q _ => ∃ (a : Addr) (ps : List NM.Pn), vs = [.ref a] ∧ OT CO H a 1 ps ∧ Q .non H
theorem c_need_text_along (T : Txt K mg C CO) : C8.Cal P w K mg base 2 "need_text_along" (sp_need_along CO) [] := by
  refine calF T.d_need_text_along sc_need_text_along (fun vs H Q E h => ?_) (fun f cdv A outer s H vs Q E hr h => ?_)
  · obtain ⟨_, _, rfl, _⟩ := h; rfl
  · obtain ⟨a, ps, rfl, oa, q⟩ := h
    obtain ⟨l, ⟨dx, ha⟩, ga⟩ := id oa
    refine ⟨_, (pss_cons (ps_expr (C8.pe_c (c_need_text T) hr (by decide) (by rfl) (pa_cons (pv 0) pa_nil)))
    (pss_one (ps_if (pt_cmpR op_ne (C8.pe_mt0 (m_OpenText_many T) hr (by decide) (pv 0)) pe_int (nomark _))
    (pss_one ps_never)
    pss_nil))), ?_⟩
    exact ⟨_, rfl, a, 1, ps, rfl, oa, _, rfl, a, dx, _, rfl, ha, (OF_no l 1).2, a, 1, ps, rfl, oa, rfl, _, rfl, iteNS rfl q⟩
def sp_agreeing_counts (CO : Addr) : Sp := fun vs H Q _ => ∃ (a b : Addr) (ps qs : List NM.Pn), vs = [.ref a, .ref b] ∧ OT CO H a 1 ps ∧ OT CO H b 1 qs ∧ Tn ps ∧ Tn qs ∧ ∀ D H', Same H H' → H D = none → LP H' D (NM.agrL ps qs) → Q (.ref D) H'
theorem c_agreeing_counts (T : Txt K mg C CO) : C8.Cal P w K mg base 8 "agreeing_counts" (sp_agreeing_counts CO) [] := by
  refine calF T.d_agreeing_counts sc_agreeing_counts (fun vs H Q E h => ?_) (fun f cdv A outer s H vs Q E hr h => ?_)
  · obtain ⟨_, _, _, _, rfl, _⟩ := h; rfl
  · obtain ⟨a, b, ps, qs, rfl, oa, ob, tp, tq, q⟩ := h
    refine ⟨_, (pss_cons (ps_asg (pe_tup (pa_cons (C8.pe_c (c_length T) hr (by decide) (by rfl) (pa_cons (pv 0) pa_nil)) (pa_cons (C8.pe_c (c_length T) hr (by decide) (by rfl) (pa_cons (pv 1) pa_nil)) pa_nil))) (pg_two (K := K) (i := 2) (j := 3) rfl rfl sc_agreeing_counts.nd rfl rfl (Or.inr rfl) (Or.inr rfl)))
    (pss_cons (ps_setLc (i := 4) (own := [("count", 5)]) rfl sc_agreeing_counts.nd rfl rfl (sw_true rfl rfl rfl (by decide +kernel)) (pi_range1 (by rfl) T.m_range (pa_cons (pe_op op_add (pe_callB (call_max2 rfl) (by rfl) T.m_max (by decide +kernel) (pa_cons (C8.pe_c (c_size T) hr (by decide) (by rfl) (pa_cons (pv 0) pa_nil)) (pa_cons (C8.pe_c (c_size T) hr (by decide) (by rfl) (pa_cons (pv 1) pa_nil)) pa_nil))) pe_int) pa_nil)) (blkOk_by (N := ["one", "other", "left", "right", "counts", "count", "point"]) (sc := C8.fnScope (topS 86)) (own := [("count", 5)]) (by decide +kernel)) (fun _ _ _ _ _ => (pg_name (i := 5) sc_agreeing_counts.nd rfl (Or.inl rfl))) (fun _ _ _ _ _ => pts_nil) (fun _ _ _ _ _ => (pe_lst (pa_cons (pv 5) pa_nil))))
    (pss_cons (ps_setLc (i := 4) (own := [("point", 6)]) rfl sc_agreeing_counts.nd rfl rfl (sw_true rfl rfl rfl (by decide +kernel)) (pi_list (pv 4)) (blkOk_by (N := ["one", "other", "left", "right", "counts", "count", "point"]) (sc := C8.fnScope (topS 86)) (own := [("point", 6)]) (by decide +kernel)) (fun _ _ _ _ _ => (pg_name (i := 6) sc_agreeing_counts.nd rfl (Or.inl rfl))) (fun _ _ _ _ _ => (pts_one (pt_cmpR op_eq (C8.pe_c (c_form_value T) hr (by decide) (by rfl) (pa_cons (pv 2) (pa_cons (pv 6) pa_nil))) (C8.pe_c (c_form_value T) hr (by decide) (by rfl) (pa_cons (pv 3) (pa_cons (pv 6) pa_nil))) (nomark _)))) (fun _ _ _ _ _ => (pv 6)))
    (pss_one (ps_ret (pe_lc (own := [("point", 6)]) (by rfl) sc_agreeing_counts.nd (pi_list (pv 4)) (blkOk_by (N := ["one", "other", "left", "right", "counts", "count", "point"]) (sc := C8.fnScope (topS 86)) (own := [("point", 6)]) (by decide +kernel)) (fun _ _ _ _ _ => (pg_name (i := 6) sc_agreeing_counts.nd rfl (Or.inl rfl))) (fun _ _ _ _ _ => (pts_one (pt_val (C8.pe_c (c_same_kept T) hr (by decide) (by rfl) (pa_cons (C8.pe_c (c_kept T) hr (by decide) (by rfl) (pa_cons (pv 0) (pa_cons (pv 6) pa_nil))) (pa_cons (C8.pe_c (c_kept T) hr (by decide) (by rfl) (pa_cons (pv 1) (pa_cons (pv 6) pa_nil))) pa_nil)))))) (fun _ _ _ _ _ => (pe_ix ix_listH (pv 6) pe_int (fun _ _ => rfl))))))))), ?_⟩
    refine ⟨_, rfl, a, 1, ps, rfl, oa, by decide, fun f1 H1 s1 h1 => ⟨_, rfl, b, 1, qs, rfl, ob.same s1, by decide, fun f2 H2 s2 h2 => ⟨by show 2 ≤ sizeLine; decide, fun tb ntb => ⟨tb, _, rfl, .inl (.inl upd_same), rfl, _, _, rfl, _, _, rfl, rfl, ?_⟩⟩⟩⟩
    have stb := sameNew (o := .tup [.ref f1, .ref f2]) ntb
    have s12 := (s1.trans s2).trans stb
    have h1 := stb _ _ (s2 _ _ h1)
    have h2 := stb _ _ h2
    generalize upd H2 tb (.tup [.ref f1, .ref f2]) = HB at *
    clear stb
    refine ⟨_, rfl, a, 1, ps, rfl, oa.same s12, fun H3 s3 => ⟨_, rfl, b, 1, qs, rfl, (ob.same s12).same s3, fun H4 s4 => ⟨_, _, rfl, ?_⟩⟩⟩
    have s24 := s3.trans s4
    have h1 := s24 _ _ h1
    have h2 := s24 _ _ h2
    have s14 := s12.trans s24
    dsimp only
    rw [max_nat]
    have mS : max (NM.tot ps) (NM.tot qs) ≤ 900 := Nat.max_le.mpr ⟨tp.tot, tq.tot⟩
    have q' := q
    unfold NM.agrL at q'
    generalize max (NM.tot ps) (NM.tot qs) = S0 at *
    clear s1 s2 s12 s3 s4 s24 q
    refine ⟨_, _, rfl, rfl, ((S0 + 1 : Nat) : Int), rfl, by omega, by omega, fun D hD => ?_⟩
    refine lc_range (fun i H5 => i ≤ S0 + 1 ∧ Same H4 H5 ∧ ∃ us, H5 D = some (.lst us) ∧ Sg H5 D us (List.range i)) ⟨Nat.zero_le _, sameNew hD, [], upd_same, .nil⟩ (fun i H5 hi p => ?_) fun H5 p => ?_
    · obtain ⟨_, s5, us, hus, pus⟩ := p
      have i1 : i < S0 + 1 := by
        have : i < (((S0 + 1 : Nat) : Int)).toNat := hi
        omega
      have lu := pus.len
      rw [List.length_range] at lu
      refine ⟨rfl, yes_if ⟨_, rfl, by show 1 ≤ sizeLine; decide, fun La nLa => ?_⟩⟩
      have sa := sameNew (o := .lst [V.int (0 + (i : Int))]) nLa
      have neD : La ≠ D := fun z => by rw [z, hus] at nLa; cases nLa
      refine ⟨us, sa _ _ hus, by rw [sizeLine_eq]; omega, by omega, same_upd2 hD (s5.trans sa), _, upd_same, ?_⟩
      rw [List.range_succ]
      refine (pus.mono fun a x e n => ⟨?_, n⟩).app (.cons ?_ neD .nil)
      · rw [upd_ne n]
        exact sa _ _ e
      · rw [upd_ne neD, upd_same, Int.zero_add]
    obtain ⟨_, s5, us, hus, pus⟩ := p
    have eS : (((S0 + 1 : Nat) : Int)).toNat = S0 + 1 := by omega
    rw [eS] at pus
    have h1 := s5 _ _ h1
    have h2 := s5 _ _ h2
    have s15 := s14.trans s5
    have oa := oa.same s15
    have ob := ob.same s15
    have lu := pus.len
    rw [List.length_range] at lu
    clear s14 s5 hD eS
    -- the same length
    refine ⟨_, rfl, D, rfl, ⟨_, .inl (.inl hus)⟩, fun D2 hD2 => ?_⟩
    have bL : ∀ {zs : List NM.Pn} {x : Nat}, Tn zs → x ≤ 900 → NM.valF (lenP 1 zs) [x] = (NM.wr [x] zs).length := fun {zs x} t _ => val_lenP t.len [x]
    refine lc_list (K := K) (a := D) (xs := us) (fun i H6 => Same H5 H6 ∧ ∃ ws, H6 D2 = some (.lst ws) ∧ Sg H6 D2 ws (((List.range (S0 + 1)).take i).filter fun x => decide ((NM.wr [x] ps).length = (NM.wr [x] qs).length))) ⟨sameNew hD2, [], upd_same, .nil⟩ (fun i H6 _ p => .inl (.inl (p.1 _ _ hus))) (fun i y H6 hi p => ?_) fun H6 p => ?_
    · obtain ⟨s6, ws, hws, pws⟩ := p
      obtain ⟨La, x, rfl, hx, hLa, neD⟩ := (pus.mono (H' := H6) (D' := D) fun a x e n => ⟨s6 _ _ e, n⟩).get hi
      have xS : x ≤ 900 := by
        have := List.mem_range.mp (List.mem_of_getElem? hx)
        omega
      have ne2 : La ≠ D2 := fun z => by
        obtain ⟨La', x', e, _, h', _⟩ := pus.get hi
        cases e
        rw [z, hD2] at h'
        cases h'
      have hLP : LP H6 La [x] := hLa
      have lw := pws.len
      have lf := List.length_filter_le (fun x => decide ((NM.wr [x] ps).length = (NM.wr [x] qs).length)) ((List.range (S0 + 1)).take i)
      rw [List.length_take, List.length_range] at lf
      have lenf : ∀ {zs : List NM.Pn}, Tn zs → (lenP 1 zs).length = 1 + 1 := fun t => len_lenP t.len
      refine ⟨rfl, _, rfl, _, rfl, f1, La, lenP 1 ps, [x], 1, rfl, s6 _ _ h1, hLP, lenf tp, rfl, by decide, bf_lenP tp.len tp.wl, bf_one (Nat.le_trans xS (by decide)), fun H7 s7 => ⟨_, rfl, _, rfl, f2, La, lenP 1 qs, [x], 1, rfl, s7 _ _ (s6 _ _ h2), s7 _ _ hLP, lenf tq, rfl, by decide, bf_lenP tq.len tq.wl, bf_one (Nat.le_trans xS (by decide)), fun H8 s8 => ⟨rfl, _, rfl, ?_⟩⟩⟩
      have s78 := s7.trans s8
      rw [filter_snoc _ hx]
      have ed : decide (V.int (NM.valF (lenP 1 ps) [x] : Nat) = V.int (NM.valF (lenP 1 qs) [x] : Nat)) = decide ((NM.wr [x] ps).length = (NM.wr [x] qs).length) := by
        rw [bL tp xS, bL tq xS]
        exact decide_eq_decide.mpr ⟨fun h => by have := V.int.inj h; omega, fun h => by rw [h]⟩
      rw [ed]
      cases z : decide ((NM.wr [x] ps).length = (NM.wr [x] qs).length) with
      | true =>
        refine iteT ⟨_, rfl, ws, s78 _ _ hws, by rw [sizeLine_eq]; omega, same_upd2 hD2 (s6.trans s78), _, upd_same, ?_⟩
        rw [if_pos rfl]
        refine (pws.mono fun a x e n => ⟨?_, n⟩).app (.cons ?_ ne2 .nil)
        · rw [upd_ne n]
          exact s78 _ _ e
        · rw [upd_ne ne2]
          exact s78 _ _ hLa
      | false =>
        rw [if_neg Bool.false_ne_true, List.append_nil]
        exact iteF ⟨s6.trans s78, ws, s78 _ _ hws, pws.mono fun a x e n => ⟨s78 _ _ e, n⟩⟩
    obtain ⟨s6, ws, hws, pws⟩ := p
    rw [lu, List.take_of_length_le (by rw [List.length_range]; exact Nat.le_refl _)] at pws
    have lw := pws.len
    have mem : ∀ x ∈ (List.range (S0 + 1)).filter fun x => decide ((NM.wr [x] ps).length = (NM.wr [x] qs).length), x ≤ 900 := fun x hx => by
      have := List.mem_range.mp (List.mem_filter.mp hx).1
      omega
    have lf := List.length_filter_le (fun x => decide ((NM.wr [x] ps).length = (NM.wr [x] qs).length)) (List.range (S0 + 1))
    rw [List.length_range] at lf
    have ef : ((List.range (S0 + 1)).filter fun x => decide ((NM.wr [x] ps).length = (NM.wr [x] qs).length)).filter (fun x => decide (NM.wr [x] ps = NM.wr [x] qs)) = (List.range (S0 + 1)).filter fun x => decide (NM.wr [x] ps = NM.wr [x] qs) := by
      rw [List.filter_filter]
      congr 1
      funext x
      by_cases e : NM.wr [x] ps = NM.wr [x] qs
      · rw [decide_eq_true e, decide_eq_true (congrArg List.length e)]
        rfl
      · rw [decide_eq_false e]
        rfl
    generalize (List.range (S0 + 1)).filter (fun x => decide ((NM.wr [x] ps).length = (NM.wr [x] qs).length)) = xs at *
    have oa := oa.same s6
    have ob := ob.same s6
    have s16 := s15.trans s6
    refine ⟨_, rfl, D2, rfl, ⟨_, .inl (.inl hws)⟩, fun D3 hD3 => ?_⟩
    refine lc_list (K := K) (a := D2) (xs := ws) (fun i H7 => Same H6 H7 ∧ H7 D3 = some (.lst (natsV ((xs.take i).filter fun x => decide (NM.wr [x] ps = NM.wr [x] qs))))) ⟨sameNew hD3, upd_same⟩ (fun i H7 _ p => .inl (.inl (p.1 _ _ hws))) (fun i y H7 hi p => ?_) fun H7 p => ?_
    · obtain ⟨s7, hys⟩ := p
      obtain ⟨La, x, rfl, hx, hLa, _⟩ := pws.get hi
      have xS := mem x (List.mem_of_getElem? hx)
      have x100 : x ≤ 2 ^ 70 := Nat.le_trans xS (by decide)
      have hLP : LP H7 La [x] := s7 _ _ hLa
      have lf2 := List.length_filter_le (fun x => decide (NM.wr [x] ps = NM.wr [x] qs)) (xs.take i)
      rw [List.length_take] at lf2
      have ok1 := tp.ok x100
      have ok2 := tq.ok x100
      refine ⟨rfl, _, rfl, _, rfl, a, La, 1, 1000, ps, [x], rfl, oa.same s7, hLP, rfl, by decide, bf_one x100, ok1, by decide, fun k1 H8 s8 kw1 => ⟨_, rfl, _, rfl, b, La, 1, 1000, qs, [x], rfl, (ob.same s7).same s8, s8 _ _ hLP, rfl, by decide, bf_one x100, ok2, by decide, fun k2 H9 s9 kw2 => ⟨k1, k2, _, _, 1000, rfl, kw1.same s9, kw2, ok1.tidy, ok2.tidy, by decide, (ty_tidy _).all, (ty_tidy _).all, fun HA sA => ⟨_, rfl, ?_⟩⟩⟩⟩
      rw [wr_tidy, wr_tidy, wr_atP, wr_atP, filter_snoc _ hx]
      have s7A := (s8.trans s9).trans sA
      cases z : decide (NM.wr [x] ps = NM.wr [x] qs) with
      | true =>
        refine iteT ⟨_, rfl, La, _, 0, _, rfl, rfl, s7A _ _ hLP, atI_nat (j := 0) rfl, _, s7A _ _ hys, by rw [natsV_len, sizeLine_eq]; omega, same_upd2 hD3 (s7.trans s7A), ?_⟩
        rw [upd_same, if_pos rfl]
        unfold natsV
        rw [List.map_append]
        rfl
      | false =>
        rw [if_neg Bool.false_ne_true, List.append_nil]
        exact iteF ⟨s7.trans s7A, s7A _ _ hys⟩
    · obtain ⟨s7, hys⟩ := p
      rw [lw, List.take_length, ef] at hys
      refine q' D3 H7 (s16.trans s7) ?_ hys
      cases e : H D3 with
      | none => rfl
      | some o => rw [s16 _ _ e] at hD3; cases hD3
def AgV (H H' : Hp) (v : V) : Option (List Nat) → Prop
  | none => v = .non
  | some xs => ∃ L, v = .ref L ∧ LP H' L xs ∧ H L = none
/-- the counts, or none for one text -/
def agr (ps qs : List NM.Pn) : Option (List Nat) := if ps = qs then none else some (NM.agrL ps qs)
def sp_agreeing (CO : Addr) : Sp := fun vs H Q _ => ∃ (a b : Addr) (ps qs : List NM.Pn), vs = [.ref a, .ref b] ∧ OT CO H a 1 ps ∧ OT CO H b 1 qs ∧ Tn ps ∧ Tn qs ∧ ∀ v H', Same H H' → AgV H H' v (agr ps qs) → Q v H'
theorem c_agreeing (T : Txt K mg C CO) : C8.Cal P w K mg base 9 "agreeing" (sp_agreeing CO) [] := by
  refine calF T.d_agreeing sc_agreeing (fun vs H Q E h => ?_) (fun f cdv A outer s H vs Q E hr h => ?_)
  · obtain ⟨_, _, _, _, rfl, _⟩ := h; rfl
  · obtain ⟨a, b, ps, qs, rfl, oa, ob, tp, tq, q⟩ := h
    obtain ⟨l, ⟨dx, ha⟩, ga⟩ := id oa
    obtain ⟨l', ⟨dy, hb⟩, gb⟩ := id ob
    refine ⟨_, (pss_cons (ps_expr (C8.pe_c (c_need_text_along T) hr (by decide) (by rfl) (pa_cons (pv 0) pa_nil)))
    (pss_cons (ps_expr (C8.pe_c (c_need_text_along T) hr (by decide) (by rfl) (pa_cons (pv 1) pa_nil)))
    (pss_one (ps_ret (pe_ifExp (pt_cmpR (op_eqO (m_OpenText___eq__ T) hr (by decide)) (pv 0) (pv 1) (nomark _)) pe_non (C8.pe_c (c_agreeing_counts T) hr (by decide) (by rfl) (pa_cons (pv 0) (pa_cons (pv 1) pa_nil)))))))), ?_⟩
    refine ⟨_, rfl, a, ps, rfl, oa, _, rfl, b, qs, rfl, ob, ?_⟩
    refine ⟨_, rfl, _, rfl, a, b, dx, _, dy, _, rfl, rfl, ha, hb, a, b, 1, 1, ps, qs, rfl, oa, ob, ⟨_, rfl⟩, _, rfl, ?_⟩
    rw [decide_eq_true (show 1 = 1 from rfl), Bool.true_and]
    unfold agr at q
    by_cases e : ps = qs
    · rw [decide_eq_true e]
      rw [if_pos e] at q
      exact iteT (q .non H (Same.refl _) rfl)
    · rw [decide_eq_false e]
      rw [if_neg e] at q
      exact iteF ⟨_, rfl, _, rfl, a, b, ps, qs, rfl, oa, ob, tp, tq, fun D H' s' fD hD => q _ H' s' ⟨D, rfl, hD, fD⟩⟩
end
end K39K

set_option Elab.async false
set_option linter.all false
set_option maxRecDepth 100000
set_option maxHeartbeats 4000000
namespace K39
open PySem PySem.Spec PyProof.Rows L2 CK SX NM
section
variable {P : Program} {w : World} {K : PySem.W.Frag} {mg : Str → Option Value} {base : Heap} {CK C : Addr}
/-! ### the law's own defs -/
theorem fm0 {i j : Int} (h : 0 < j) : 0 ≤ i.fmod j := Int.fmod_nonneg_of_pos i h
theorem fm1 {i j : Int} (h : 0 < j) : i.fmod j < j := Int.fmod_lt_of_pos i h
theorem ab {i : Int} {k : Nat} (h0 : 0 ≤ i) (h : i < 2 ^ k) : i.natAbs < 2 ^ k := by
  have e : ((2 ^ k : Nat) : Int) = 2 ^ k := by simp
  omega
def sp_hash : Sp := fun vs H Q _ => ∃ s i : Int, vs = [.int s, .int i] ∧ 0 ≤ s ∧ s < 2 ^ 31 ∧ 0 ≤ i ∧ i < 2 ^ 41 ∧ ∀ r : Int, 0 ≤ r → r < 2 ^ 31 → Q (.int r) H
theorem c_law_hash (T : Txt K mg CK C) : C8.Cal P w K mg base 1 "_law_hash" sp_hash [] := by
  refine calF T.d_law_hash sc_law_hash (fun vs H Q E h => ?_) (fun f cdv A outer s H vs Q E hr h => ?_)
  · obtain ⟨_, _, rfl, _⟩ := h; rfl
  · obtain ⟨z, i, rfl, h0, h1, h2, h3, q⟩ := h
    refine ⟨_, (pss_cons (ps_set (i := 2) sc_law_hash.nd rfl (Or.inl rfl) (pe_op op_modN (pe_callTy call_int1 (by rfl) T.m_int (by decide +kernel) (pa_cons (pe_op op_add (pe_op op_add (pe_op op_add (pe_op op_mulW (pv 0) pe_int) (pe_op op_mulW (pe_op op_mulW pe_int (pv 1)) (pv 1))) (pe_op op_mulW pe_int (pv 1))) pe_int) pa_nil)) pe_int))
    (pss_cons (ps_set (i := 2) sc_law_hash.nd rfl (Or.inl rfl) (pe_op op_modN (pe_callTy call_int1 (by rfl) T.m_int (by decide +kernel) (pa_cons (pe_op op_add (pe_op op_add (pe_op op_mulW (pv 2) (pv 2)) pe_int) (pe_op op_mulW pe_int (pv 1))) pa_nil)) pe_int))
    (pss_one (ps_ret (pe_op op_modN (pe_callTy call_int1 (by rfl) T.m_int (by decide +kernel) (pa_cons (pe_op op_mulW (pv 2) pe_int) pa_nil)) pe_int))))), ?_⟩
    have a1 : z.natAbs < 2 ^ 100 := ab h0 (by omega)
    have a2 : i.natAbs < 2 ^ 100 := ab h2 (by omega)
    have a3 : ((15487469 : Int)).natAbs < 2 ^ 100 := by decide
    have a4 := wide_lt a3 a2
    refine ⟨_, rfl, z, _, rfl, rfl, wide_mul a1 (show ((1212121 : Int)).natAbs < 2 ^ 100 by decide) (by decide) (by decide) (by decide), ?_⟩
    refine ⟨_, rfl, _, i, rfl, rfl, wide_mul a3 a2 (by decide) (by decide) (by decide), _, rfl, _, i, rfl, rfl, wide_mul a4 a2 (by decide) (by decide) (by decide), _, _, rfl, rfl, ?_⟩
    refine ⟨_, rfl, _, i, rfl, rfl, wide_mul (show ((227 : Int)).natAbs < 2 ^ 100 by decide) a2 (by decide) (by decide) (by decide), _, _, rfl, rfl, _, _, rfl, rfl, .inl ⟨_, rfl, _, _, rfl, rfl, (by decide : (2147483629 : Int) ≠ 0), ?_⟩⟩
    obtain ⟨m, hm⟩ : ∃ m, (z * 1212121 + 15487469 * i * i + 227 * i + 41).fmod 2147483629 = m := ⟨_, rfl⟩
    have m0 : 0 ≤ m := by rw [← hm]; exact fm0 (by decide)
    have m1 : m < 2147483629 := by rw [← hm]; exact fm1 (by decide)
    have a5 : m.natAbs < 2 ^ 100 := ab m0 (by omega)
    refine ⟨_, rfl, _, rfl, m, m, congrArg V.int hm, congrArg V.int hm, wide_mul a5 a5 (by decide) (by decide) (by decide), _, _, rfl, rfl, ?_⟩
    refine ⟨_, rfl, _, i, rfl, rfl, wide_mul (show ((52711 : Int)).natAbs < 2 ^ 100 by decide) a2 (by decide) (by decide) (by decide), _, _, rfl, rfl, .inl ⟨_, rfl, _, _, rfl, rfl, (by decide : (2147483587 : Int) ≠ 0), ?_⟩⟩
    obtain ⟨k, hk⟩ : ∃ k, (m * m + 86028121 + 52711 * i).fmod 2147483587 = k := ⟨_, rfl⟩
    have k0 : 0 ≤ k := by rw [← hk]; exact fm0 (by decide)
    have k1 : k < 2147483587 := by rw [← hk]; exact fm1 (by decide)
    have a6 : k.natAbs < 2 ^ 100 := ab k0 (by omega)
    refine ⟨_, rfl, k, _, congrArg V.int hk, rfl, wide_mul a6 (show ((39373 : Int)).natAbs < 2 ^ 100 by decide) (by decide) (by decide) (by decide), .inl ⟨_, rfl, _, _, rfl, rfl, (by decide : (2147483647 : Int) ≠ 0), ?_⟩⟩
    exact q _ (fm0 (by decide)) (Int.lt_trans (fm1 (by decide)) (by decide))
def sp_random : Sp := fun vs H Q _ => ∃ (g : Addr) (b : Int) (n : Nat), vs = [.ref g, .int b] ∧ Gn (n + 1) H g ∧ 1 ≤ b ∧ b < 2 ^ 200 ∧ ∀ (r : Int) H', SameX g H H' → Gn n H' g → 0 ≤ r → r < b → Q (.int r) H'
theorem pow32 (i : Nat) : (2 : Int) ^ (32 * (i + 1)) = 2 ^ (32 * i) * 4294967296 := by
  rw [Nat.mul_add, Int.pow_add]
  rfl
theorem pow_ge1 (i : Nat) : (1 : Int) ≤ 2 ^ i := by
  have := Int.pow_pos (n := 2) (m := i) (by decide)
  omega
theorem c_law_random (T : Txt K mg CK C) : C8.Cal P w K mg base 2 "_law_random" sp_random [] := by
  refine calF T.d_law_random sc_law_random (fun vs H Q E h => ?_) (fun f cdv A outer s H vs Q E hr h => ?_)
  · obtain ⟨_, _, _, rfl, _⟩ := h; rfl
  · obtain ⟨g, b, n, rfl, G, hb, hb2, q⟩ := h
    refine ⟨_, (pss_cons (ps_if (pt_cmpR op_gt (pe_ix ix_list (pv 0) pe_int (fun _ _ => rfl)) pe_int (nomark _))
    (pss_cons (ps_set (i := 2) sc_law_random.nd rfl (Or.inl rfl) (pe_op op_modN (pe_callTy call_int1 (by rfl) T.m_int (by decide +kernel) (pa_cons (pe_ix ix_list (pv 0) pe_int (fun _ _ => rfl)) pa_nil)) (pv 1)))
    (pss_cons (ps_asg (pe_op op_fdivW (pe_ix ix_list (pv 0) pe_int (fun _ _ => rfl)) (pv 1)) (pg_sub (pv 0) pe_int set_list))
    (pss_one (ps_ret (pv 2)))))
    pss_nil)
    (pss_cons (ps_set (i := 2) sc_law_random.nd rfl (Or.inl rfl) pe_int)
    (pss_cons (ps_for PassesOwn.never rfl (pi_range1 (by rfl) T.m_range (pa_cons (pe_op op_add pe_int (pe_op op_fdivW (pe_bits (pv 1)) pe_int)) pa_nil)) (pg_name (i := 3) sc_law_random.nd rfl (Or.inl rfl))
    (pss_cons (ps_asg (pe_op op_add (pe_ix ix_list (pv 0) pe_int (fun _ _ => rfl)) pe_int) (pg_sub (pv 0) pe_int set_list))
    (pss_one (ps_set (i := 2) sc_law_random.nd rfl (Or.inl rfl) (pe_op op_add (pe_op op_mulW (pv 2) pe_int) (C8.pe_c (c_law_hash T) hr (by decide) (by rfl) (pa_cons (pe_ix ix_list (pv 0) pe_int (fun _ _ => rfl)) (pa_cons (pe_ix ix_list (pv 0) pe_int (fun _ _ => rfl)) pa_nil))))))))
    (pss_one (ps_ret (pe_op op_modN (pe_callTy call_int1 (by rfl) T.m_int (by decide +kernel) (pa_cons (pv 2) pa_nil)) (pv 1))))))), ?_⟩
    obtain ⟨x, y, c, hg, x0, y0, y1, c0, c1⟩ := G
    refine ⟨_, rfl, g, _, 0, .int x, rfl, rfl, .inl (.inl hg), atI_nat (j := 0) rfl, x, 0, rfl, rfl, _, rfl, ite2 (fun e => ?_) (fun e => ?_)⟩
    · -- a digit
      refine ⟨_, rfl, g, _, 0, .int x, rfl, rfl, .inl (.inl hg), atI_nat (j := 0) rfl, .inl ⟨x, rfl, _, rfl, x, b, rfl, rfl, by omega, ?_⟩⟩
      refine ⟨_, rfl, g, _, 0, .int x, rfl, rfl, .inl (.inl hg), atI_nat (j := 0) rfl, _, rfl, x, b, rfl, rfl, wide_div (b := 200) (by omega) (ab (by omega) hb2) (by decide) (by decide), _, rfl, g, _, 0, 0, rfl, rfl, hg, rfl, ?_⟩
      exact ⟨_, rfl, q _ _ sameX_upd ⟨x / b, y, c, upd_same, Int.ediv_nonneg x0 (by omega), y0, y1, c0, by omega⟩ (fm0 (by omega)) (fm1 (by omega))⟩
    · -- by the hash
      have ib : Builtin.Int.intBits b ≤ 200 := intBits_le (ab (by omega) hb2)
      have tn : (1 + ((Builtin.Int.intBits b : Nat) : Int) / 30).toNat ≤ 7 := by omega
      refine ⟨_, rfl, b, rfl, _, _, rfl, rfl, wide_div (b := 200) (by decide) (by decide) (by decide) (by decide), _, _, rfl, rfl, _, rfl, by omega, by omega, ?_⟩
      refine for_it walk_range (fun i σ H3 => ∃ (d : Int) (y3 : Option V) (c3 : Int), σ = [some (.ref g), some (.int b), some (.int d), y3] ∧ SameX g H H3 ∧ H3 g = some (.lst [.int x, .int y, .int c3]) ∧ c3 = c + i ∧ 0 ≤ d ∧ d < 2 ^ (32 * i) ∧ i ≤ 7)
        ⟨0, none, c, rfl, .refl _ _, hg, by simp, Int.le_refl _, by decide, by decide⟩ (fun _ _ _ _ _ => True.intro) (fun i v σ H3 H4 hi p yy => ?_) fun σ H3 p => ?_
      · obtain ⟨d, y3, c3, rfl, s3, g3, ec, d0, d1, i7⟩ := p
        obtain ⟨rfl, rfl⟩ := yy
        have i6 : i ≤ 6 := by omega
        have u1 : (upd H4 g (.lst [.int x, .int y, .int (c3 + 1)])) g = some (.lst [.int x, .int y, .int (c3 + 1)]) := upd_same
        refine ⟨_, rfl, g, _, 2, .int c3, rfl, rfl, .inl (.inl g3), atI_nat (j := 2) rfl, _, _, rfl, rfl, _, rfl, g, _, 2, 2, rfl, rfl, g3, rfl, ?_⟩
        have ad : d.natAbs < 2 ^ (32 * i + 1) := ab d0 (Int.lt_of_lt_of_le d1 (by rw [Int.pow_succ]; have := pow_ge1 (32 * i); omega))
        refine ⟨_, rfl, d, _, rfl, rfl, wide_mul ad (show ((2147483587 : Int)).natAbs < 2 ^ 100 by decide) (by omega) (by decide) (by omega), ?_⟩
        refine ⟨_, rfl, g, _, 1, .int y, rfl, rfl, .inl (.inl u1), atI_nat (j := 1) rfl, _, rfl, g, _, 2, .int (c3 + 1), rfl, rfl, .inl (.inl u1), atI_nat (j := 2) rfl, y, c3 + 1, rfl, y0, y1, by omega, by omega, fun r r0 r1 => ⟨_, _, rfl, rfl, ?_⟩⟩
        refine ⟨_, _, c3 + 1, rfl, fun z o nz e => by rw [upd_ne nz]; exact s3 z o nz e, u1, by omega, by have : 0 ≤ d * 2147483587 := Int.mul_nonneg d0 (by decide); omega, ?_, by omega⟩
        rw [pow32]
        have := pow_ge1 (32 * i)
        omega
      · obtain ⟨d, y3, c3, rfl, s3, g3, ec, d0, d1, i7⟩ := p
        refine ⟨_, rfl, .inl ⟨d, rfl, _, rfl, d, b, rfl, rfl, by omega, ?_⟩⟩
        exact q _ _ s3 ⟨x, y, c3, g3, x0, y0, y1, by omega, by omega⟩ (fm0 (by omega)) (fm1 (by omega))
def sp_cell (K : PySem.W.Frag) : Sp := fun vs H Q _ => ∃ (a : Addr) (ns : List Int) (i : Nat), vs = [.ref a, .int i] ∧ SqL K H a (ns.map V.int) ∧ ∀ (r : Int) H', Same H H' → Q (.int r) H'
theorem c_law_cell (T : Txt K mg CK C) : C8.Cal P w K mg base 1 "_law_cell" (sp_cell K) [] := by
  refine calF T.d_law_cell sc_law_cell (fun vs H Q E h => ?_) (fun f cdv A outer s H vs Q E hr h => ?_)
  · obtain ⟨_, _, _, rfl, _⟩ := h; rfl
  · obtain ⟨a, ns, i, rfl, ha, q⟩ := h
    refine ⟨_, (pss_cons (ps_if (pt_cmpR op_lt (pv 1) (pe_callB call_len_seq (by rfl) T.m_len (by decide +kernel) (pa_cons (pv 0) pa_nil)) (nomark _))
    (pss_one (ps_ret (pe_ix ix_list (pv 0) (pv 1) (fun _ _ => rfl))))
    pss_nil)
    (pss_one (ps_ret (pe_op op_modN (pe_callB (cr_sum rfl) (by rfl) T.m_sum (by decide +kernel) (pa_cons (pe_slice sl_list (pv 0) po_none (po_some pe_int)) pa_nil)) pe_int)))), ?_⟩
    refine ⟨_, rfl, _, rfl, a, _, rfl, .inl ha, _, _, rfl, rfl, _, rfl, ite2 (fun e => ?_) (fun e => ?_)⟩
    · have e' := of_decide_eq_true e
      rw [List.length_map] at e'
      have hi : i < ns.length := by omega
      refine ⟨_, rfl, _, rfl, a, _, i, .int ns[i], rfl, rfl, ha, atI_nat ?_, q _ H (Same.refl _)⟩
      rw [List.getElem?_map, List.getElem?_eq_getElem hi]
      rfl
    · refine ⟨_, rfl, 1, rfl, a, _, rfl, ha, fun p hp => ?_⟩
      refine ⟨p, ns.take 1, rfl, .inl (.inl ?_), _, _, rfl, rfl, (by decide : (1000003 : Int) ≠ 0), q _ _ (sameNew hp)⟩
      rw [upd_same, show ((1 : Int)) = ((1 : Nat) : Int) from rfl, cutV_take, List.map_take]
def sp_generator (K : PySem.W.Frag) : Sp := fun vs H Q _ => ∃ (a : Addr) (ns : List Int) (i : Nat), vs = [.ref a, .int i] ∧ SqL K H a (ns.map V.int) ∧ i ≤ 10 ∧ ∀ g H1 H', Same H H1 → H1 g = none → Same H1 H' → Gn 100000 H' g → Q (.ref g) H'
theorem c_law_generator (T : Txt K mg CK C) : C8.Cal P w K mg base 2 "_law_generator" (sp_generator K) [] := by
  refine calF T.d_law_generator sc_law_generator (fun vs H Q E h => ?_) (fun f cdv A outer s H vs Q E hr h => ?_)
  · obtain ⟨_, _, _, rfl, _⟩ := h; rfl
  · obtain ⟨a, ns, i, rfl, ha, hi, q⟩ := h
    refine ⟨_, (pss_cons (ps_set (i := 2) sc_law_generator.nd rfl (Or.inl rfl) (C8.pe_c (c_law_cell T) hr (by decide) (by rfl) (pa_cons (pv 0) (pa_cons (pv 1) pa_nil))))
    (pss_one (ps_ret (pe_lst (pa_cons (pe_op op_modN (pe_callTy call_int1 (by rfl) T.m_int (by decide +kernel) (pa_cons (pe_callB (call_max2 rfl) (by rfl) T.m_max (by decide +kernel) (pa_cons (pe_op op_sub (pv 2) (pe_op op_powB pe_int pe_int)) (pa_cons pe_int pa_nil))) pa_nil)) (pe_op op_powB (pe_op op_powB pe_int pe_int) pe_int)) (pa_cons (pe_op op_modN (pe_callTy call_int1 (by rfl) T.m_int (by decide +kernel) (pa_cons (pv 2) pa_nil)) pe_int) (pa_cons (pe_op op_mulW pe_int (pv 1)) pa_nil))))))), ?_⟩
    refine ⟨_, rfl, _, rfl, a, ns, i, rfl, ha, fun r H1 s1 => ?_⟩
    refine ⟨_, rfl, _, _, rfl, rfl, ⟨by decide, by decide⟩, _, _, rfl, rfl, _, _, rfl, .inl ⟨_, rfl, _, _, rfl, rfl, ⟨by decide, by decide⟩, _, _, rfl, rfl, ⟨by decide, by decide⟩, _, _, rfl, rfl, (by decide : ((10 : Int) ^ Int.toNat 60) ^ Int.toNat 10 ≠ 0), ?_⟩⟩
    refine ⟨_, rfl, .inl ⟨_, rfl, _, _, rfl, rfl, (by decide : (2147483647 : Int) ≠ 0), ?_⟩⟩
    refine ⟨_, rfl, _, _, rfl, rfl, wide_mul (show ((1000 : Int)).natAbs < 2 ^ 100 by decide) (show ((i : Int)).natAbs < 2 ^ 100 by omega) (by decide) (by decide) (by decide), by show 3 ≤ sizeLine; decide, fun g hg => ?_⟩
    refine q g H1 _ s1 hg (sameNew hg) ⟨_, _, _, upd_same, fm0 (by decide), fm0 (by decide), Int.lt_trans (fm1 (by decide)) (by decide), by omega, by omega⟩
end
end K39

set_option Elab.async false
set_option linter.all false
set_option maxRecDepth 100000
set_option maxHeartbeats 4000000
namespace K39
open PySem PySem.Spec PyProof.Rows L2 CK SX NM
/-- a comprehension over a range that draws: what its items are is told by Pz -/
theorem lcP_draw {lo : Int} {g : Addr} {n cnt j : Nat} (Pz : V → Prop) {te : TE} {vs : List Nat} {σ : L2.St} {H1 : Hp} {D : Addr} {Qd : Hp → Prop} (hc : cnt < sizeLine) (hD : H1 D = none) (hg : Gn (n + cnt) H1 g)
    (hs : ∀ (i : Nat) (H : Hp) (R : VK), i < cnt → SameX g H1 H → Gn (n + (cnt - (i + 1)) + 1) H g → (∀ (r : V) H', SameX g H H' → Gn (n + (cnt - (i + 1))) H' g → Pz r → R r H') →
      wipe ((wipe σ vs).set j (some (.int (lo + i)))) vs = wipe σ vs ∧ te ((wipe σ vs).set j (some (.int (lo + i)))) H R)
    (hd : ∀ (H : Hp) (ns : List V), SameX g H1 H → Gn n H g → H D = some (.lst ns) → ns.length = cnt → (∀ x ∈ ns, Pz x) → Qd H) :
    ∃ W : Nat → Nat → Hp → Prop, (∃ m, W 0 m (L2.upd H1 D (.lst []))) ∧ ∀ i m H, W i m H →
      ((Itr lo cnt).stop i H ∧ Qd H) ∨ ((Itr lo cnt).go i H ∧ ∃ Nx : Hp → Prop, (∀ H', Nx H' → ∃ m', m' < m ∧ W (i + 1) m' H') ∧ ∀ x H', (Itr lo cnt).yld i H x H' → gName j x (wipe σ vs) H' fun σ2 H2 => wipe σ2 vs = wipe σ vs ∧ tYes σ2 H2 fun b H3 =>
        if b = true then te σ2 H3 fun y H4 => ∃ acc, H4 D = some (.lst acc) ∧ acc.length < sizeLine ∧ Nx (L2.upd H4 D (.lst (acc ++ [y]))) else Nx H3) := by
  have hDg := hg.ne hD
  refine lc_range (fun i H => SameX g H1 H ∧ Gn (n + (cnt - i)) H g ∧ i ≤ cnt ∧ ∃ ns : List V, H D = some (.lst ns) ∧ ns.length = i ∧ ∀ x ∈ ns, Pz x)
    ⟨sameX_new hD, hg.upd hDg, Nat.zero_le _, [], upd_same, rfl, fun x h => absurd h List.not_mem_nil⟩ (fun i H hi p => ?_) fun H p => ?_
  · obtain ⟨s, G, _, ns, hL, hl, hb⟩ := p
    have G1 : Gn (n + (cnt - (i + 1)) + 1) H g := by
      have e : n + (cnt - (i + 1)) + 1 = n + (cnt - i) := by omega
      rw [e]
      exact G
    refine hs i H _ hi s G1 fun r H' s' G' h0 => ⟨_, s' D _ hDg hL, by omega, (s.trans s').upd2 hD, G'.upd hDg, hi, ns ++ [r], upd_same, ?_, fun x hx => ?_⟩
    · rw [List.length_append, hl]
      rfl
    · rcases List.mem_append.mp hx with z | z
      · exact hb x z
      · rw [List.mem_singleton.mp z]
        exact h0
  · obtain ⟨s, G, _, ns, hL, hl, hb⟩ := p
    rw [Nat.sub_self] at G
    exact hd H ns s G hL hl hb
theorem join_one : ∀ cs : List Nat, TL.joinL [] (cs.map fun c => [c]) = cs
  | [] => rfl
  | [c] => rfl
  | c :: d :: r => by
    show [c] ++ ([] ++ TL.joinL [] ((d :: r).map fun c => [c])) = _
    rw [join_one (d :: r)]
    rfl
theorem join_S1 (cs : List Nat) : Txt.join (Str.ofString "") (cs.map fun c => S [c]) = S cs := by
  rw [empty_S]
  have := join_S [] (cs.map fun c => [c])
  rw [List.map_map] at this
  rw [show (cs.map fun c => S [c]) = cs.map (S ∘ fun c => [c]) from rfl, this, join_one]
theorem ones_S : ∀ {vs : List V}, (∀ v ∈ vs, ∃ c, v = V.str (S [c]) ∧ 97 ≤ c ∧ c ≤ 122) → ∃ cs : List Nat, vs = (cs.map fun c => S [c]).map V.str ∧ Low cs ∧ cs.length = vs.length
  | [], _ => ⟨[], rfl, fun c h => absurd h List.not_mem_nil, rfl⟩
  | v :: vs, h => by
    obtain ⟨c, rfl, hc⟩ := h v List.mem_cons_self
    obtain ⟨cs, rfl, lw, hl⟩ := ones_S fun u hu => h u (List.mem_cons_of_mem _ hu)
    refine ⟨c :: cs, rfl, fun d hd => ?_, by simp⟩
    rcases List.mem_cons.mp hd with z | z
    · rw [z]; exact hc
    · exact lw d z

theorem abc_S : (Str.ofString "abcdefghijklmnopqrstuvwxyz" : Str) = S (List.range' 97 26) := by decide +kernel
theorem low_abc : Low (List.range' 97 26) := fun c hc => by
  rw [List.mem_range'] at hc
  obtain ⟨i, h1, h2⟩ := hc
  omega
theorem get_one {cs : List Nat} {i : Nat} {v : V} (h : (cs.map fun c => V.str (S [c]))[i]? = some v) : ∃ c, cs[i]? = some c ∧ v = V.str (S [c]) := by
  rw [List.getElem?_map] at h
  cases e : cs[i]? with
  | none => rw [e] at h; cases h
  | some c =>
    rw [e] at h
    exact ⟨c, rfl, (Option.some.inj h).symm⟩
theorem sum_ones (l : List Nat) : ((l.map fun c => S [c]).map fun x => x.length).sum = l.length := by
  induction l with
  | nil => rfl
  | cons c r ih => rw [List.map_cons, List.map_cons, List.sum_cons, ih, S_len]; simp; omega
theorem nats_of : ∀ {ns : List Int}, (∀ z ∈ ns, 0 ≤ z) → ns.map V.int = (ns.map Int.toNat).map fun k : Nat => V.int (k : Nat)
  | [], _ => rfl
  | z :: r, h => by
    have h0 := h z List.mem_cons_self
    rw [List.map_cons, List.map_cons, List.map_cons, nats_of fun y hy => h y (List.mem_cons_of_mem _ hy)]
    congr 2
    omega
section
variable {P : Program} {w : World} {K : PySem.W.Frag} {mg : Str → Option Value} {base : Heap} {CK C : Addr}
def sp_letters : Sp := fun vs H Q _ => ∃ (g : Addr) (n : Nat), vs = [.ref g] ∧ Gn (n + 2) H g ∧ ∀ cs H', SameX g H H' → Gn n H' g → cs.length = 3 → Low cs → cs[0]? ≠ cs[1]? → Q (.str (S cs)) H'
theorem abc_get {k : Nat} (h : k < 26) : (List.range' 97 26)[k]? = some (97 + k) := by
  rw [List.getElem?_range' h]
  simp
theorem c_law_letters (T : Txt K mg CK C) : C8.Cal P w K mg base 3 "_law_letters" sp_letters [] := by
  refine calF T.d_law_letters sc_law_letters (fun vs H Q E h => ?_) (fun f cdv A outer s H vs Q E hr h => ?_)
  · obtain ⟨_, _, rfl, _⟩ := h; rfl
  · obtain ⟨g, n, rfl, G, q⟩ := h
    refine ⟨_, (pss_cons (ps_asg (pe_tup (pa_cons (C8.pe_c (c_law_random T) hr (by decide) (by rfl) (pa_cons (pv 0) (pa_cons pe_int pa_nil))) (pa_cons (pe_op op_add pe_int (C8.pe_c (c_law_random T) hr (by decide) (by rfl) (pa_cons (pv 0) (pa_cons pe_int pa_nil)))) pa_nil))) (pg_two (K := K) (i := 1) (j := 2) rfl rfl sc_law_letters.nd rfl rfl (Or.inr rfl) (Or.inr rfl)))
    (pss_one (ps_ret (pe_join pe_str (pe_lc (own := [("_law_turn", 3)]) (by rfl) sc_law_letters.nd (pi_range1 (by rfl) T.m_range (pa_cons pe_int pa_nil)) (blkOk_by (N := ["_law_generator_here", "_law_first", "_law_step", "_law_turn"]) (sc := C8.fnScope (topS 97)) (own := [("_law_turn", 3)]) (by decide +kernel)) (fun _ _ _ _ _ => (pg_name (i := 3) sc_law_letters.nd rfl (Or.inl rfl))) (fun _ _ _ _ _ => pts_nil) (fun _ _ _ _ _ => (pe_ix ix_str pe_str (pe_op op_modN (pe_callTy call_int1 (by rfl) T.m_int (by decide +kernel) (pa_cons (pe_op op_add (pv 1) (pe_op op_mulW (pv 2) (pv 3))) pa_nil)) pe_int) (fun _ _ => rfl)))))))), ?_⟩
    refine ⟨_, rfl, g, 26, n + 1, rfl, G, by decide, by decide, fun x H1 s1 G1 x0 x1 => ?_⟩
    refine ⟨_, rfl, g, 12, n, rfl, G1, by decide, by decide, fun y H2a s2a G2a y0 y1 => ⟨_, _, rfl, rfl, by show 2 ≤ sizeLine; decide, fun tp ntp => ?_⟩⟩
    obtain ⟨a, rfl⟩ : ∃ a : Nat, x = a := ⟨x.toNat, by omega⟩
    obtain ⟨b, rfl⟩ : ∃ b : Nat, y = b := ⟨y.toNat, by omega⟩
    have s2 := s2a.trans (.of (sameNew (o := .tup [V.int (a : Nat), V.int (1 + ((b : Nat) : Int))]) ntp))
    have G2 := G2a.same (sameNew (o := .tup [V.int (a : Nat), V.int (1 + ((b : Nat) : Int))]) ntp)
    refine ⟨tp, _, rfl, .inl (.inl upd_same), rfl, _, _, rfl, _, _, rfl, rfl, ?_⟩
    dsimp only
    generalize upd H2a tp (.tup [V.int (a : Nat), V.int (1 + ((b : Nat) : Int))]) = H2 at s2 G2
    refine ⟨⟨_, rfl⟩, 3, rfl, by decide, by decide, fun D hD => ?_⟩
    have lt : ∀ k, (97 + k % 26) - 97 < 26 := fun k => by omega
    let cs : List Nat := (List.range 3).map fun t => 97 + (a + (1 + b) * t) % 26
    refine lc_range (fun i H3 => Same H2 H3 ∧ H3 D = some (.lst (((List.range i).map fun t => 97 + (a + (1 + b) * t) % 26).map fun c => V.str (S [c])))) ⟨sameNew hD, upd_same⟩ (fun i H3 hi p => ?_) fun H3 p => ?_
    · obtain ⟨s3, h3⟩ := p
      have lx : (97 + (a + (1 + b) * i) % 26) < 97 + 26 := by omega
      have hz : (List.range' 97 26)[(a + (1 + b) * i) % 26]? = some (97 + (a + (1 + b) * i) % 26) := abc_get (by omega)
      have em : (((a : Nat) : Int) + (1 + ((b : Nat) : Int)) * (0 + ((i : Nat) : Int))).fmod 26 = (((a + (1 + b) * i) % 26 : Nat) : Int) := by
        rw [Int.fmod_eq_emod_of_nonneg _ (by omega), Int.zero_add, Int.natCast_emod, Int.natCast_add, Int.natCast_mul, Int.natCast_add]
        rfl
      have cm : CMulW (1 + ((b : Nat) : Int)) (0 + ((i : Nat) : Int)) := wide_mul (a := 100) (b := 100) (by omega) (by omega) (by decide) (by decide) (by decide)
      refine ⟨rfl, _, rfl, _, rfl, _, rfl, _, _, rfl, rfl, cm, _, _, rfl, rfl, .inl ⟨_, rfl, _, _, rfl, rfl, (by decide : (26 : Int) ≠ 0), ?_⟩⟩
      refine ⟨S (List.range' 97 26), _, _, congrArg V.str abc_S, congrArg V.int em, len_line (by decide), atI_nat (xs := List.range' 97 26) hz, ?_⟩
      refine ⟨_, h3, by rw [List.length_map, List.length_map, List.length_range, sizeLine_eq]; omega, same_upd2 hD s3, ?_⟩
      rw [upd_same, List.range_succ, List.map_append, List.map_append]
      rfl
    · obtain ⟨s3, h3⟩ := p
      refine ⟨Str.ofString "", D, cs.map fun c => S [c], rfl, rfl, .inl (.inl (.inl (by rw [h3]; simp only [cs, List.map_map]; rfl))), by rw [sum_ones, len_empty]; simp [cs], ?_⟩
      rw [join_S1]
      refine q cs H3 ((s1.trans s2).trans (.of s3)) (G2.same s3) rfl (fun c hc => ?_) ?_
      · obtain ⟨t, _, rfl⟩ := List.mem_map.mp hc
        omega
      · show some (97 + (a + (1 + b) * 0) % 26) ≠ some (97 + (a + (1 + b) * 1) % 26)
        intro e
        have := Option.some.inj e
        omega
def sp_word : Sp := fun vs H Q _ => ∃ (g : Addr) (cs : List Nat) (n lo hi : Nat), vs = [.ref g, .str (S cs), .int lo, .int hi] ∧ cs ≠ [] ∧ cs.length ≤ 26 ∧ Low cs ∧ Gn (n + 10) H g ∧ lo ≤ hi ∧ hi ≤ 6 ∧
  ∀ (w : List Nat) H', SameX g H H' → Gn n H' g → lo ≤ w.length → w.length ≤ hi → Low w → Q (.str (S w)) H'
theorem c_law_word (T : Txt K mg CK C) : C8.Cal P w K mg base 3 "_law_word" sp_word [] := by
  refine calF T.d_law_word sc_law_word (fun vs H Q E h => ?_) (fun f cdv A outer s H vs Q E hr h => ?_)
  · obtain ⟨_, _, _, _, _, rfl, _⟩ := h; rfl
  · obtain ⟨g, cs, n, lo, hi, rfl, ne, l26, lowc, G, h1, h2, q⟩ := h
    have n0 := List.length_pos_iff.mpr ne
    refine ⟨_, (pss_cons (ps_set (i := 4) sc_law_word.nd rfl (Or.inl rfl) (pe_op op_add (pv 2) (C8.pe_c (c_law_random T) hr (by decide) (by rfl) (pa_cons (pv 0) (pa_cons (pe_op op_add (pe_op op_sub (pv 3) (pv 2)) pe_int) pa_nil)))))
    (pss_one (ps_ret (pe_join pe_str (pe_lc (own := [("_law_turn", 5)]) (by rfl) sc_law_word.nd (pi_range1 (by rfl) T.m_range (pa_cons (pv 4) pa_nil)) (blkOk_by (N := ["_law_generator_here", "_law_letters_here", "_law_least", "_law_most", "_law_many", "_law_turn"]) (sc := C8.fnScope (topS 98)) (own := [("_law_turn", 5)]) (by decide +kernel)) (fun _ _ _ _ _ => (pg_name (i := 5) sc_law_word.nd rfl (Or.inl rfl))) (fun _ _ _ _ _ => pts_nil) (fun _ _ _ _ _ => (pe_ix ix_str (pv 1) (C8.pe_c (c_law_random T) hr (by decide) (by rfl) (pa_cons (pv 0) (pa_cons (pe_callB call_len_str (by rfl) T.m_len (by decide +kernel) (pa_cons (pv 1) pa_nil)) pa_nil))) (fun _ _ => rfl)))))))), ?_⟩
    refine ⟨_, rfl, _, rfl, _, rfl, _, rfl, _, _, rfl, rfl, _, _, rfl, rfl, g, _, n + 9, rfl, G, by omega, by omega, fun r H1 s1 G1 r0 r1 => ?_⟩
    refine ⟨_, _, rfl, rfl, ?_⟩
    refine ⟨⟨_, rfl⟩, _, rfl, (lo : Int) + r, rfl, by omega, by omega, fun D hD => ?_⟩
    refine lcP_draw (lo := 0) (g := g) (n := n) (cnt := ((lo : Int) + r).toNat) (fun v => ∃ c, v = V.str (S [c]) ∧ 97 ≤ c ∧ c ≤ 122) (small1000 (by omega)) hD (G1.le (by omega)) (fun i H2 R hi2 s2 G2 q' => ?_) fun H3 ns s3 G3 hL hl hP => ?_
    · refine ⟨rfl, _, rfl, _, rfl, _, rfl, S cs, rfl, len_line (by omega), g, _, _, rfl, G2, by rw [S_len]; omega, by rw [S_len]; omega, fun r3 H3 s3 G3 r30 r31 => ?_⟩
      rw [S_len] at r31
      obtain ⟨k, rfl⟩ : ∃ k : Nat, r3 = k := ⟨r3.toNat, by omega⟩
      have hk : k < cs.length := by omega
      have hz := List.getElem?_eq_getElem hk
      have hc := lowc _ (List.getElem_mem hk)
      generalize cs[k] = c at hz hc
      exact ⟨S cs, _, c, rfl, rfl, len_line (by omega), atI_nat (xs := cs) hz, q' _ H3 s3 G3 ⟨c, rfl, hc⟩⟩
    · obtain ⟨ws, rfl, lw, lw2⟩ := ones_S hP
      refine ⟨Str.ofString "", D, ws.map fun c => S [c], rfl, rfl, .inl (.inl (.inl hL)), by rw [sum_ones, List.length_map, len_empty]; omega, ?_⟩
      rw [join_S1]
      exact q ws H3 (s1.trans s3) G3 (by omega) (by omega) lw
/-- numbers up to most -/
def Up (most : Nat) (f : List Nat) : Prop := ∀ n ∈ f, n ≤ most
def sp_law_plain : Sp := fun vs H Q _ => ∃ (m k : Nat), vs = [.int m, .int k] ∧ m ≤ 3 ∧ ∀ p H', Same H H' → FT H' p (k :: List.replicate m 0) → Q (.ref p) H'
theorem c_law_plain (T : Txt K mg CK C) : C8.Cal P w K mg base 1 "_law_plain" sp_law_plain [] := by
  refine calF T.d_law_plain sc_law_plain (fun vs H Q E h => ?_) (fun f cdv A outer s H vs Q E hr h => ?_)
  · obtain ⟨_, _, rfl, _⟩ := h; rfl
  · obtain ⟨m, k, rfl, hm, q⟩ := h
    refine ⟨_, (pss_one (ps_ret (pe_op op_catS (pe_tup (pa_cons (pv 1) pa_nil)) (pe_op op_repOne (pe_tup (pa_cons pe_int pa_nil)) (pv 0))))), ?_⟩
    refine ⟨_, rfl, by show 1 ≤ sizeLine; decide, fun t1 n1 => ⟨by decide, fun t2 n2 => ⟨_, rfl, t2, _, _, rfl, rfl, upd_same, by omega, by omega, fun p H' s hp => ?_⟩⟩⟩
    have e1 : H' t1 = some (.tup [.int k]) := s _ _ (by rw [upd_ne (ne_of_none upd_same n2)]; exact upd_same)
    refine ⟨t1, p, _, _, rfl, rfl, e1, hp, by simp; omega, fun p2 H2 s2 h2 => q p2 H2 (((sameNew n1).trans (sameNew n2)).trans (s.trans s2)) ?_⟩
    unfold FT
    rw [h2]
    simp
end
end K39

set_option Elab.async false
set_option linter.all false
set_option maxRecDepth 100000
set_option maxHeartbeats 4000000
namespace K39
open PySem PySem.Spec PyProof.Rows L2 CK SX NM
theorem low_rotpart {b : List Nat} (h : Low b) (i j : Nat) : Low (((b ++ b).drop i).take j) := low_take (low_drop (low_app h h) _) _
theorem up_plain {m k B : Nat} (h : k ≤ B) : Up B (k :: List.replicate m 0) := fun x hx => by
  rcases List.mem_cons.mp hx with z | z
  · omega
  · rw [List.eq_of_mem_replicate z]
    exact Nat.zero_le _
section
variable {P : Program} {w : World} {K : PySem.W.Frag} {mg : Str → Option Value} {base : Heap} {CK C : Addr}
def sp_law_form : Sp := fun vs H Q _ => ∃ (g : Addr) (m c most n : Nat), vs = [.ref g, .int m, .int c, .int most] ∧ Gn (n + m) H g ∧ m ≤ 3 ∧ most < 2 ^ 100 ∧
  ∀ p f H', SameX g H H' → Gn n H' g → FT H' p (c :: f) → f.length = m → Up most f → Q (.ref p) H'
theorem c_law_form (T : Txt K mg CK C) : C8.Cal P w K mg base 3 "_law_form" sp_law_form [] := by
  refine calF T.d_law_form sc_law_form (fun vs H Q E h => ?_) (fun f cdv A outer s H vs Q E hr h => ?_)
  · obtain ⟨_, _, _, _, _, rfl, _⟩ := h; rfl
  · obtain ⟨g, m, c, most, n, rfl, G, hm, h1, q⟩ := h
    refine ⟨_, (pss_one (ps_ret (pe_op op_catS (pe_tup (pa_cons (pv 2) pa_nil)) (pe_callTy call_tupL (by rfl) T.m_tuple (by decide +kernel) (pa_cons (pe_lc (own := [("_law_turn", 4)]) (by rfl) sc_law_form.nd (pi_range1 (by rfl) T.m_range (pa_cons (pv 1) pa_nil)) (blkOk_by (N := ["_law_generator_here", "_law_many", "_law_constant", "_law_most", "_law_turn"]) (sc := C8.fnScope (topS 100)) (own := [("_law_turn", 4)]) (by decide +kernel)) (fun _ _ _ _ _ => (pg_name (i := 4) sc_law_form.nd rfl (Or.inl rfl))) (fun _ _ _ _ _ => pts_nil) (fun _ _ _ _ _ => (C8.pe_c (c_law_random T) hr (by decide) (by rfl) (pa_cons (pv 0) (pa_cons (pe_op op_add (pv 3) pe_int) pa_nil))))) pa_nil))))), ?_⟩
    refine ⟨_, rfl, by show 1 ≤ sizeLine; decide, fun t1 n1 => ?_⟩
    have s1 := sameNew (o := .tup [V.int (c : Nat)]) n1
    have G1 := G.same s1
    refine ⟨_, rfl, _, rfl, by omega, by omega, ?_⟩
    refine fun D hD => lcD_draw (cnt := m) (n := n) (g := g) (most := (most : Int)) (small5 (by omega)) hD G1 (fun i H3 R hi s3 G3 q' => ?_) fun H3 ns s3 G3 hL hl hb => ?_
    · exact ⟨rfl, _, rfl, _, rfl, _, _, rfl, rfl, g, most + 1, _, rfl, G3, by omega, by omega, fun r H4 s4 G4 r0 r1 => q' r H4 s4 G4 r0 (by omega)⟩
    · refine ⟨D, _, rfl, hL, fun l H4 s4 h4 => ?_⟩
      have e1 : H4 t1 = some (.tup [V.int (c : Nat)]) := s4 _ _ (s3.tup G1 upd_same)
      refine ⟨t1, l, _, _, rfl, rfl, e1, h4, by rw [List.length_map, hl]; show 1 + m ≤ 1000; omega, fun p H5 s5 h5 => ?_⟩
      refine q p (ns.map Int.toNat) H5 ((SameX.of s1).trans (s3.trans (.of (s4.trans s5)))) ((G3.same s4).same s5) ?_ (by rw [List.length_map, hl]) fun x hx => ?_
      · unfold FT
        rw [h5, nats_of fun z hz => (hb z hz).1]
        rfl
      · obtain ⟨z, hz, rfl⟩ := List.mem_map.mp hx
        have := hb z hz
        omega
def sp_law_piece : Sp := fun vs H Q _ => ∃ (g : Addr) (cs b : List Nat) (m n most : Nat), vs = [.ref g, .int m, .str (S cs), .str (S b), .int most] ∧ 2 ≤ most ∧ most < 2 ^ 100 ∧ cs.length = 3 ∧ Low cs ∧ b ≠ [] ∧ b.length ≤ 2 ∧ Low b ∧ m ≤ 3 ∧ Gn (n + 50) H g ∧
  ∀ a p H', SameX g H H' → Gn n H' g → PC H' a p → p.2.length = m + 1 → p.1.length ≤ 4 → Low p.1 → Up most p.2 → p.2.headD 0 ≤ 2 → Q (.ref a) H'
theorem c_law_piece (T : Txt K mg CK C) : C8.Cal P w K mg base 4 "_law_piece" sp_law_piece [] := by
  refine calF T.d_law_piece sc_law_piece (fun vs H Q E h => ?_) (fun f0 cdv A outer s H vs Q E hr h => ?_)
  · obtain ⟨_, _, _, _, _, _, rfl, _⟩ := h; rfl
  · obtain ⟨g, cs, b, m, n, most, rfl, hm2, hmo, lcs, lowc, bne, lb, lowb, hm, G, q⟩ := h
    have b0 := List.length_pos_iff.mpr bne
    refine ⟨_, (pss_cons (ps_par (i := 5) (j := 6) (by rfl) sc_law_piece.nd rfl rfl (by decide) rfl rfl (pa_cons (C8.pe_c (c_law_random T) hr (by decide) (by rfl) (pa_cons (pv 0) (pa_cons pe_int pa_nil))) (pa_cons (C8.pe_c (c_law_random T) hr (by decide) (by rfl) (pa_cons (pv 0) (pa_cons pe_int pa_nil))) pa_nil)) (by rfl))
    (pss_cons (ps_if (pt_cmpR op_eq (pv 5) pe_int (nomark _))
    (pss_one (ps_ret (pe_tup (pa_cons (C8.pe_c (c_law_word T) hr (by decide) (by rfl) (pa_cons (pv 0) (pa_cons (pv 2) (pa_cons pe_int (pa_cons pe_int pa_nil))))) (pa_cons (C8.pe_c (c_law_plain T) hr (by decide) (by rfl) (pa_cons (pv 1) (pa_cons pe_int pa_nil))) pa_nil)))))
    pss_nil)
    (pss_cons (ps_if (pt_cmpR op_eq (pv 5) pe_int (nomark _))
    (pss_one (ps_ret (pe_tup (pa_cons (pe_slice C8.sl_txt (pe_op op_repS (pv 3) pe_int) po_none (po_some (C8.pe_c (c_law_random T) hr (by decide) (by rfl) (pa_cons (pv 0) (pa_cons (pe_op op_add (pe_op op_mulW pe_int (pe_callB call_len_str (by rfl) T.m_len (by decide +kernel) (pa_cons (pv 3) pa_nil))) pe_int) pa_nil))))) (pa_cons (C8.pe_c (c_law_plain T) hr (by decide) (by rfl) (pa_cons (pv 1) (pa_cons pe_int pa_nil))) pa_nil)))))
    pss_nil)
    (pss_cons (ps_if (pt_cmpR op_eq (pv 5) pe_int (nomark _))
    (pss_one (ps_ret (pe_tup (pa_cons (pe_op op_add_str (pe_slice C8.sl_txt (pv 3) po_none (po_some pe_int)) (pe_ix ix_str (pv 2) (pv 6) (fun _ _ => rfl))) (pa_cons (C8.pe_c (c_law_form T) hr (by decide) (by rfl) (pa_cons (pv 0) (pa_cons (pv 1) (pa_cons pe_int (pa_cons (pv 4) pa_nil))))) pa_nil)))))
    pss_nil)
    (pss_cons (ps_if (pt_cmpR op_eq (pv 5) pe_int (nomark _))
    (pss_one (ps_ret (pe_tup (pa_cons (pe_ix ix_str (pv 2) (pv 6) (fun _ _ => rfl)) (pa_cons (C8.pe_c (c_law_form T) hr (by decide) (by rfl) (pa_cons (pv 0) (pa_cons (pv 1) (pa_cons pe_int (pa_cons (pv 4) pa_nil))))) pa_nil)))))
    pss_nil)
    (pss_cons (ps_if (pt_cmpR op_eq (pv 5) pe_int (nomark _))
    (pss_one (ps_ret (pe_tup (pa_cons (C8.pe_c (c_law_word T) hr (by decide) (by rfl) (pa_cons (pv 0) (pa_cons (pe_slice C8.sl_txt (pv 2) po_none (po_some pe_int)) (pa_cons pe_int (pa_cons pe_int pa_nil))))) (pa_cons (C8.pe_c (c_law_form T) hr (by decide) (by rfl) (pa_cons (pv 0) (pa_cons (pv 1) (pa_cons (pv 6) (pa_cons (pv 4) pa_nil))))) pa_nil)))))
    pss_nil)
    (pss_one (ps_ret (pe_tup (pa_cons (pe_slice C8.sl_txt (pe_op op_add_str (pv 3) (pv 3)) (po_some (pe_op op_modN (pe_callTy call_int1 (by rfl) T.m_int (by decide +kernel) (pa_cons (pv 6) pa_nil)) (pe_callB call_len_str (by rfl) T.m_len (by decide +kernel) (pa_cons (pv 3) pa_nil)))) (po_some (pe_op op_add (pe_op op_modN (pe_callTy call_int1 (by rfl) T.m_int (by decide +kernel) (pa_cons (pv 6) pa_nil)) (pe_callB call_len_str (by rfl) T.m_len (by decide +kernel) (pa_cons (pv 3) pa_nil))) (pe_callB call_len_str (by rfl) T.m_len (by decide +kernel) (pa_cons (pv 3) pa_nil))))) (pa_cons (C8.pe_c (c_law_form T) hr (by decide) (by rfl) (pa_cons (pv 0) (pa_cons (pv 1) (pa_cons pe_int (pa_cons (pv 4) pa_nil))))) pa_nil))))))))))), ?_⟩
    refine ⟨_, rfl, g, 7, n + 49, rfl, G, by decide, by decide, fun way H1 s1 G1 w0 w1 => ?_⟩
    refine ⟨_, rfl, g, 3, n + 48, rfl, G1, by decide, by decide, fun turn H2 s2 G2 t0 t1 => ⟨_, _, rfl, ?_⟩⟩
    obtain ⟨tn, rfl⟩ : ∃ tn : Nat, turn = tn := ⟨turn.toNat, by omega⟩
    have s12 := s1.trans s2
    have csne : cs ≠ [] := fun z => by rw [z] at lcs; cases lcs
    have fin : ∀ {H' : Hp} {t fa : Addr} {z : List Nat} {f : F}, H' t = none → SameX g H H' → Gn n H' g → FT H' fa f → f.length = m + 1 → z.length ≤ 4 → Low z → Up most f → f.headD 0 ≤ 2 → Q (.ref t) (upd H' t (.tup [.str (S z), .ref fa])) := fun {H' t fa z f} ht sx G' hf lf lz lw uf h0 =>
      q t (z, f) _ (sx.trans (.of (sameNew ht))) (G'.same (sameNew ht)) ⟨fa, upd_same, sameNew ht _ _ hf⟩ lf lz lw uf h0
    have up0 : ∀ {c : Nat} {f : F}, c ≤ 2 → Up most f → Up most (c :: f) := fun {c f} hc hf x hx => by
      rcases List.mem_cons.mp hx with z | z
      · omega
      · exact hf x z
    have hk2 : tn < cs.length := by omega
    have hz := List.getElem?_eq_getElem hk2
    have hc := lowc _ (List.getElem_mem hk2)
    generalize cs[tn] = ct at hz hc
    have one : Low [ct] := fun d hd => by rw [List.mem_singleton.mp hd]; exact hc
    refine ⟨_, rfl, rfl, _, rfl, ite2 (fun e => ?_) (fun e => ?_)⟩
    · refine ⟨_, rfl, _, rfl, g, cs, n + 38, 0, 3, rfl, csne, by omega, lowc, G2.le (by omega), by decide, by decide, fun w H3 s3 G3 _ w4 lw => ?_⟩
      exact ⟨_, rfl, m, 1, rfl, hm, fun p H5 s5 h5 => ⟨by show 2 ≤ sizeLine; decide, fun t ht => fin ht (s12.trans (s3.trans (.of s5))) ((G3.same s5).le (by omega)) h5 (by simp) (by omega) lw (up_plain (by omega)) (show 1 ≤ 2 by decide)⟩⟩
    · refine ⟨_, rfl, rfl, _, rfl, ite2 (fun e => ?_) (fun e => ?_)⟩
      · have l3 : (List.replicate 3 b).flatten.length = b.length * 3 := WM.pw_len b 3
        refine ⟨_, rfl, b, 3, rfl, rfl, by decide, by omega, ?_⟩
        refine ⟨_, rfl, _, rfl, S b, rfl, len_line (by omega), _, _, rfl, rfl, wide_mul (a := 10) (b := 10) (by decide) (by rw [S_len]; omega) (by decide) (by decide) (by decide), _, _, rfl, rfl, g, _, n + 47, rfl, G2, by rw [S_len]; omega, by rw [S_len]; omega, fun r H3 s3 G3 r0 r1 => ?_⟩
        rw [S_len] at r1
        obtain ⟨rn, rfl⟩ : ∃ rn : Nat, r = rn := ⟨r.toNat, by omega⟩
        refine ⟨(rn : Int), rfl, S (List.replicate 3 b).flatten, rfl, len_line (by omega), ?_⟩
        rw [SX.slice_to (by omega), Int.toNat_natCast]
        exact ⟨_, rfl, m, 1, rfl, hm, fun p H5 s5 h5 => ⟨by show 2 ≤ sizeLine; decide, fun t ht => fin ht (s12.trans (s3.trans (.of s5))) ((G3.same s5).le (by omega)) h5 (by simp) (by rw [List.length_take]; omega) (low_take (low_pw lowb 3) _) (up_plain (by omega)) (show 1 ≤ 2 by decide)⟩⟩
      · refine ⟨_, rfl, rfl, _, rfl, ite2 (fun e => ?_) (fun e => ?_)⟩
        · refine ⟨_, rfl, 1, rfl, S b, rfl, len_line (by omega), ?_⟩
          rw [SX.slice_to (by decide), show Int.toNat 1 = 1 from rfl]
          refine ⟨_, rfl, _, rfl, S cs, _, ct, rfl, rfl, len_line (by omega), atI_nat (xs := cs) hz, ?_⟩
          refine ⟨_, _, rfl, rfl, by rw [S_len, S_len, List.length_take, sizeLine_eq]; simp; omega, ?_⟩
          rw [S_cat]
          refine ⟨_, rfl, _, rfl, _, rfl, g, m, 0, most, n, rfl, G2.le (by omega), hm, hmo, fun p f H' s' G' hf lf uf => ⟨by show 2 ≤ sizeLine; decide, fun t ht => fin ht (s12.trans s') G' hf (by simp [lf]) (by rw [List.length_append, List.length_take]; simp; omega) (low_app (low_take lowb _) one) (up0 (by omega) uf) (by first | exact (show 0 ≤ 2 by decide) | (show tn ≤ 2; omega))⟩⟩
        · refine ⟨_, rfl, rfl, _, rfl, ite2 (fun e => ?_) (fun e => ?_)⟩
          · refine ⟨_, rfl, _, rfl, S cs, _, ct, rfl, rfl, len_line (by omega), atI_nat (xs := cs) hz, ?_⟩
            refine ⟨_, rfl, _, rfl, _, rfl, g, m, 0, most, n, rfl, G2.le (by omega), hm, hmo, fun p f H' s' G' hf lf uf => ⟨by show 2 ≤ sizeLine; decide, fun t ht => fin (z := [ct]) ht (s12.trans s') G' hf (by simp [lf]) (by simp) one (up0 (by omega) uf) (by first | exact (show 0 ≤ 2 by decide) | (show tn ≤ 2; omega))⟩⟩
          · refine ⟨_, rfl, rfl, _, rfl, ite2 (fun e => ?_) (fun e => ?_)⟩
            · have c2ne : cs.take 2 ≠ [] := fun z => by
                have := congrArg List.length z
                rw [List.length_take, List.length_nil] at this
                omega
              refine ⟨_, rfl, _, rfl, 2, rfl, S cs, rfl, len_line (by omega), ?_⟩
              rw [SX.slice_to (by decide)]
              refine ⟨g, cs.take 2, n + 38, 1, 3, rfl, c2ne, by rw [List.length_take]; omega, low_take lowc _, G2.le (by omega), by decide, by decide, fun w H3 s3 G3 _ w4 lw => ?_⟩
              exact ⟨_, rfl, _, rfl, _, rfl, _, rfl, g, m, tn, most, n, rfl, G3.le (by omega), hm, hmo, fun p f H' s' G' hf lf uf => ⟨by show 2 ≤ sizeLine; decide, fun t ht => fin ht (s12.trans (s3.trans s')) G' hf (by simp [lf]) (by omega) lw (up0 (by omega) uf) (by first | exact (show 0 ≤ 2 by decide) | (show tn ≤ 2; omega))⟩⟩
            · obtain ⟨k, hk, hkl⟩ := fmodZ (tn : Int) (show b.length ≠ 0 by omega)
              refine ⟨_, rfl, _, rfl, _, _, rfl, rfl, by rw [S_len, sizeLine_eq]; omega, ?_⟩
              rw [S_cat]
              refine ⟨_, rfl, .inl ⟨_, rfl, _, rfl, S b, rfl, len_line (by omega), (tn : Int), b.length, rfl, congrArg (fun n : Nat => V.int n) (S_len b), by omega, k, congrArg V.int hk, ?_⟩⟩
              refine ⟨_, rfl, .inl ⟨_, rfl, _, rfl, S b, rfl, len_line (by omega), (tn : Int), b.length, rfl, congrArg (fun n : Nat => V.int n) (S_len b), by omega, ?_⟩⟩
              refine ⟨_, rfl, S b, rfl, len_line (by omega), k, b.length, congrArg V.int hk, congrArg (fun n : Nat => V.int n) (S_len b), ((k + b.length : Nat) : Int), congrArg V.int (by omega), S (b ++ b), rfl, len_line (by rw [List.length_append]; omega), ?_⟩
              rw [slice_mid (by omega) (by rw [List.length_append]; omega), show k + b.length - k = b.length by omega]
              have ltw : (((b ++ b).drop k).take b.length).length = b.length := by rw [List.length_take, List.length_drop, List.length_append]; omega
              refine ⟨_, rfl, _, rfl, _, rfl, g, m, 0, most, n, rfl, G2.le (by omega), hm, hmo, fun p f H' s' G' hf lf uf => ⟨by show 2 ≤ sizeLine; decide, fun t ht => fin ht (s12.trans s') G' hf (by simp [lf]) (by omega) (low_rotpart lowb k _) (up0 (by omega) uf) (by first | exact (show 0 ≤ 2 by decide) | (show tn ≤ 2; omega))⟩⟩
end
end K39

set_option Elab.async false
set_option linter.all false
set_option maxRecDepth 100000
set_option maxHeartbeats 4000000
namespace K39
open PySem PySem.Spec PyProof.Rows L2 CK SX NM
section
variable {P : Program} {w : World} {K : PySem.W.Frag} {mg : Str → Option Value} {base : Heap} {CK C : Addr}
def sp_powers_in : Sp := fun vs H Q _ => ∃ (l : Addr) (m : Nat) (ps : List Pn), vs = [.ref l] ∧ PL H l ps ∧ LenF m ps ∧ ps.length ≤ 5000 ∧ ∀ D H', Same H H' → PL H' D (ps.filter isPow) → Q (.ref D) H'
theorem c_powers_in (T : Txt K mg CK C) : C8.Cal P w K mg base 2 "powers_in" sp_powers_in [] := by
  refine calF T.d_powers_in sc_powers_in (fun vs H Q E h => ?_) (fun f0 cdv A outer s H vs Q E hr h => ?_)
  · obtain ⟨_, _, _, rfl, _⟩ := h; rfl
  · obtain ⟨l, m, ps, rfl, ⟨vs, hl, hp⟩, lF, few, q⟩ := h
    have lv := hp.len
    refine ⟨_, (pss_one (ps_ret (pe_lc (own := [("piece", 1)]) (by rfl) sc_powers_in.nd (pi_list (pv 0)) (blkOk_by (N := ["pieces", "piece"]) (sc := C8.fnScope (topS 66)) (own := [("piece", 1)]) (by decide +kernel)) (fun _ _ _ _ _ => (pg_name (i := 1) sc_powers_in.nd rfl (Or.inl rfl))) (fun _ _ _ _ _ => (pts_one (pt_val (C8.pe_c (c_is_power T) hr (by decide) (by rfl) (pa_cons (pv 1) pa_nil))))) (fun _ _ _ _ _ => (pv 1))))), ?_⟩
    refine ⟨_, rfl, l, rfl, ⟨_, .inl (.inl hl)⟩, fun D hD => ?_⟩
    refine lc_list (K := K) (a := l) (xs := vs) (fun i H1 => Same H H1 ∧ PL H1 D ((ps.take i).filter isPow)) ⟨sameNew hD, [], upd_same, .nil⟩ (fun i H1 _ p => .inl (.inl (p.1 _ _ hl))) (fun i y H1 hi p => ?_) fun H1 p => ?_
    · obtain ⟨s1, ws, hws, pws⟩ := p
      obtain ⟨a, p, rfl, hpi, pc⟩ := hp.get hi
      have pc1 := pc.mono (tup_same s1)
      have eT : (ps.take (i + 1)).filter isPow = (ps.take i).filter isPow ++ (if isPow p = true then [p] else []) := by
        rw [List.take_succ, hpi, List.filter_append]
        congr 1
        show List.filter isPow [p] = _
        rw [List.filter_cons, List.filter_nil]
      have lw := pws.len
      have l2 := List.length_filter_le isPow (ps.take i)
      rw [List.length_take] at l2
      refine ⟨rfl, _, rfl, a, p, m, rfl, pc1, lF p (List.mem_of_getElem? hpi), _, rfl, ?_⟩
      cases z : isPow p with
      | true =>
        rw [z, if_pos rfl] at eT
        rw [eT]
        exact iteT ⟨_, rfl, ws, hws, by rw [sizeLine_eq]; omega, same_upd2 hD s1, _, upd_same, (pws.upd hws).app (.one (pc1.mono (tup_upd hws)))⟩
      | false =>
        rw [z, if_neg Bool.false_ne_true, List.append_nil] at eT
        rw [eT]
        exact iteF ⟨s1, ws, hws, pws⟩
    · obtain ⟨s1, pl⟩ := p
      rw [lv, List.take_length] at pl
      exact q D H1 s1 pl
end
end K39

set_option Elab.async false
set_option linter.all false
set_option maxRecDepth 100000
set_option maxHeartbeats 8000000
set_option exponentiation.threshold 1000
namespace K39K
open K39 PySem PySem.Spec PyProof.Rows L2 CK SX KM NM
theorem norm_meas {m : Nat} {p : Pn} (h : NormP m p) : measP p = p.1.length := by
  unfold measP
  by_cases z : isPow p = true
  · have := (h.pow z).2
    rw [this, of_decide_eq_true z]
    simp
  · have z : isPow p = false := by simpa using z
    rw [h.fix z, open_one]
    simp [one1]
theorem tot_meas {m : Nat} {ps : List Pn} (h : ∀ p ∈ ps, NormP m p) : meas ps = tot ps := by
  unfold meas tot
  congr 1
  exact List.map_congr_left fun p hp => norm_meas (h p hp)
theorem opn_app (a b : List Pn) : opn (a ++ b) = opn a + opn b := by unfold opn; rw [List.filter_append, List.length_append]
theorem opn_one (p : Pn) : opn [p] ≤ 1 := List.length_filter_le _ _
theorem opn_drop {l : List Pn} : opn l.dropLast ≤ opn l := by
  cases h : l.getLast? with
  | none =>
    rw [List.getLast?_eq_none_iff] at h
    subst h
    exact Nat.le_refl _
  | some q =>
    conv => rhs; rw [NM.last_split h, opn_app]
    omega
theorem opn_fix (w : WM.W) (m : Nat) : opn [fixP w m] = 0 := by
  have : isOpen (fixP w m).2 = false := open_one m
  unfold opn
  rw [List.filter_cons, this]
  rfl
theorem opn_joinF (acc : List Pn) (w : WM.W) (m : Nat) : opn (joinF acc w m) ≤ opn acc := by
  have d := opn_drop (l := acc)
  unfold joinF
  split
  · split
    · split
      · omega
      · rw [opn_app, opn_fix]; omega
    · split
      · exact d
      · rw [opn_app, opn_fix]; omega
  · split
    · omega
    · rw [opn_app, opn_fix]; omega
theorem opn_pushP (acc : List Pn) (u : WM.W) (f : F) : opn (pushP acc u f) ≤ opn acc + 1 := by
  have d := opn_drop (l := acc)
  unfold pushP
  split
  · next q hq =>
    split
    · rw [opn_app]; have := opn_one (u, addF q.2 f); omega
    · rw [opn_app]; have := opn_one (u, f); omega
  · rw [opn_app]; have := opn_one (u, f); omega
theorem opn_putP (acc : List Pn) (u : WM.W) (f : F) : opn (putP acc u f) ≤ opn acc + 1 := by
  have d := opn_drop (l := acc)
  unfold putP
  split
  · next q _ =>
    split
    · exact Nat.le_trans (opn_joinF _ _ _) (opn_pushP _ _ _)
    · have a := opn_joinF acc.dropLast (q.1.take (q.1.length - movedE q.1 u)) (f.length - 1)
      have b := opn_pushP (joinF acc.dropLast (q.1.take (q.1.length - movedE q.1 u)) (f.length - 1)) (rotR u (movedE q.1 u)) f
      exact Nat.le_trans (opn_joinF _ _ _) (by omega)
  · exact Nat.le_trans (opn_joinF _ _ _) (opn_pushP _ _ _)
theorem opn_stepN (acc : List Pn) (p : Pn) : opn (stepN acc p) ≤ opn acc + opn [p] := by
  have a : opn (stepA acc p) ≤ opn acc + opn [p] := by
    unfold stepA
    split
    · next h =>
      have : opn [p] = 1 := by
        unfold opn
        rw [List.filter_cons, if_pos h.2]
        rfl
      rw [this]
      exact opn_putP _ _ _
    · omega
  unfold stepN stepB
  split
  · exact Nat.le_trans (opn_joinF _ _ _) a
  · exact a
theorem opn_fold : ∀ (ps acc : List Pn), opn (ps.foldl stepN acc) ≤ opn acc + opn ps
  | [], acc => by simp
  | p :: r, acc => by
    have h := opn_fold r (stepN acc p)
    have s := opn_stepN acc p
    have e : opn (p :: r) = opn [p] + opn r := opn_app [p] r
    rw [List.foldl_cons]
    omega
theorem opn_normL (ps : List Pn) : opn (normL ps) ≤ opn ps := by
  have := opn_fold ps []
  have e : opn ([] : List Pn) = 0 := rfl
  unfold normL
  omega


/-- a list of pieces of one unknown within bounds: measure c, length at 1 N, powers k -/
structure Rg (c N k : Nat) (rs : List Pn) : Prop where
  len : LenF 1 rs
  ws : Ws 2000 rs
  low : LowP rs
  me : meas rs ≤ c
  ones : (NM.wr [1] rs).length ≤ N
  few : opn rs ≤ k
  cnt : rs.length ≤ 2000
  bf : ∀ p ∈ rs, Bf p.2
section
variable {c N k c' N' k' : Nat} {rs ss : List Pn}
theorem Rg.up (h : Rg c N k rs) (h1 : c ≤ c') (h2 : N ≤ N') (h3 : k ≤ k') : Rg c' N' k' rs := ⟨h.len, h.ws, h.low, Nat.le_trans h.me h1, Nat.le_trans h.ones h2, Nat.le_trans h.few h3, h.cnt, h.bf⟩
theorem Rg.app (h : Rg c N k rs) (g : Rg c' N' k' ss) (l : rs.length + ss.length ≤ 2000) : Rg (c + c') (N + N') (k + k') (rs ++ ss) := by
  refine ⟨fun p hp => (List.mem_append.mp hp).elim (h.len p) (g.len p), fun p hp => (List.mem_append.mp hp).elim (h.ws p) (g.ws p), fun p hp => (List.mem_append.mp hp).elim (h.low p) (g.low p), ?_, ?_, ?_, by rw [List.length_append]; exact l, fun p hp => (List.mem_append.mp hp).elim (h.bf p) (g.bf p)⟩
  · rw [meas_app]
    exact Nat.add_le_add h.me g.me
  · rw [NM.wr_app, List.length_append]
    exact Nat.add_le_add h.ones g.ones
  · rw [opn_app]
    exact Nat.add_le_add h.few g.few
theorem Rg.wl (h : Rg c N k rs) (hN : N ≤ 2 ^ 120) : Wl 1 rs := Nat.lt_of_le_of_lt h.ones (Nat.lt_of_le_of_lt hN (by decide))
theorem Rg.gl {H : Hp} {l : Addr} (h : Rg c N k rs) (pl : K39.PL H l rs) : GL H 1 l rs := ⟨pl, h.len, h.ws, h.low, h.bf, by have := h.cnt; omega⟩
theorem Rg.norm (h : Rg c N k rs) (hc : c ≤ 2000) (hN : N ≤ 2 ^ 120) : Rg c N k (normL rs) := by
  have n := nm_normL h.len
  have m := meas_normL h.len
  have t := tot_meas n.all
  have me := h.me
  have ne : ∀ p ∈ normL rs, p.1 ≠ [] := fun p hp => (n.all p hp).ne
  refine ⟨n.lenF, fun p hp => ?_, lowP_normL h.low, by omega, by rw [wr_normL h.len]; exact h.ones, Nat.le_trans (opn_normL rs) h.few, ?_, bf_normL h.len (h.wl hN)⟩
  · have := tot_mem hp
    omega
  · have := tot_len ne
    omega
theorem Rg.tn (h : Rg c N k rs) (nm : Nm 1 rs) (hc : c ≤ 900) (hN : N ≤ 2 ^ 120) (hk : k ≤ 25) : Tn rs := by
  have t := tot_meas nm.all
  have me := h.me
  exact ⟨nm, by omega, h.low, Nat.le_trans h.ones hN, Nat.le_trans h.few hk⟩
end
/-- as they are drawn -/
def Dr (most : Nat) (ps : List Pn) : Prop := ∀ p ∈ ps, p.2.length = 1 + 1 ∧ p.1.length < 5 ∧ Low p.1 ∧ Up most p.2 ∧ p.2.headD 0 ≤ 2
theorem wr_le1 {k : Nat} : ∀ {ps : List Pn}, (∀ p ∈ ps, (wrt [1] p).length ≤ k) → (NM.wr [1] ps).length ≤ ps.length * k := fun {ps} h => wr_le ps h
theorem Dr.rg {most : Nat} {ps : List Pn} (h : Dr most ps) (l : ps.length ≤ 3) (hm : most ≤ 2 ^ 30) : Rg 36 (2 ^ 36) 3 ps := by
  refine ⟨fun p hp => (h p hp).1, fun p hp => by have := (h p hp).2.1; omega, fun p hp => (h p hp).2.2.1, ?_, ?_, Nat.le_trans (List.length_filter_le _ _) l, by omega, fun p hp n hn => Nat.lt_of_le_of_lt (Nat.le_trans ((h p hp).2.2.2.1 n hn) hm) (by decide)⟩
  · refine Nat.le_trans (meas_le (k := 12) ps fun p hp => ?_) (Nat.mul_le_mul_right 12 l)
    obtain ⟨_, a, _, _, b⟩ := h p hp
    replace a := Nat.le_of_lt_succ a
    unfold measP
    refine Nat.le_trans (Nat.mul_le_mul a (show _ ≤ 3 by split <;> omega)) (by decide)
  · refine Nat.le_trans (wr_le1 (k := 4 * (2 ^ 30 + 2 ^ 30)) fun p hp => ?_) (Nat.le_trans (Nat.mul_le_mul_right _ l) (by decide))
    obtain ⟨e, a, _, u, b⟩ := h p hp
    replace a := Nat.le_of_lt_succ a
    have el : (wrt [1] p).length = p.1.length * valF p.2 [1] := WM.pw_len _ _
    rw [el]
    refine Nat.mul_le_mul a ?_
    rw [val_scale e]
    obtain ⟨x, y, exy⟩ : ∃ x y, p.2 = [x, y] := by
      match p.2, e with
      | [x, y], _ => exact ⟨x, y, rfl⟩
    rw [exy] at u ⊢
    have ux := u x (by simp)
    have uy := u y (by simp)
    show x + y * 1 ≤ _
    omega
end K39K

set_option linter.all false
set_option maxRecDepth 100000
/-! where two progressions meet first -/
namespace LM
/-- what the first count is made of -/
theorem solve {g t b h inv z c0 q : Int} (hi : inv * t = 1 + z * b) (hc : h * inv = b * q + c0) : t * c0 = h + b * (h * z - q * t) := by
  have e : c0 = h * inv - b * q := by omega
  subst e
  grind
theorem up_div {s M : Int} (hM : 0 < M) : s ≤ M * ((s + M - 1) / M) ∧ M * ((s + M - 1) / M - 1) < s := by
  have a := Int.mul_ediv_add_emod (s + M - 1) M
  have b := Int.emod_lt_of_pos (s + M - 1) hM
  have c := Int.emod_nonneg (s + M - 1) (show M ≠ 0 by omega)
  rw [Int.mul_sub]
  constructor <;> omega
/-- the least count: c0, or more turns of b -/
theorem least {g t b h inv z c0 e : Int} (hg : 0 < g) (ht : 0 < t) (hb : 0 < b) (hi : inv * t = 1 + z * b) (h0 : 0 ≤ c0) (hlt : c0 < b) (he : t * c0 = h + b * e) (c : Int)
    (hc : c = if 0 < g * h - g * t * c0 then c0 + (g * h - g * t * c0 + g * t * b - 1) / (g * t * b) * b else c0) :
    c0 ≤ c ∧ ∃ d : Int, 0 ≤ d ∧ g * t * c - g * h = g * b * d ∧ ∀ c' d' : Int, 0 ≤ c' → 0 ≤ d' → g * t * c' - g * h = g * b * d' → c ≤ c' := by
  have gb : 0 < g * b := Int.mul_pos hg hb
  have M0 : 0 < g * t * b := Int.mul_pos (Int.mul_pos hg ht) hb
  have es : g * h - g * t * c0 = -(g * b * e) := by grind
  -- what any other count is
  have other : ∀ c' d' : Int, 0 ≤ c' → 0 ≤ d' → g * t * c' - g * h = g * b * d' → ∃ j : Int, 0 ≤ j ∧ c' = c0 + b * j ∧ d' = e + t * j := fun c' d' hc' hd' h' => by
    have h1 : t * c' = h + b * d' := by
      have : g * (t * c' - h - b * d') = 0 := by grind
      have := (Int.mul_eq_zero.mp this).resolve_left (by omega)
      omega
    have h2 : c' - c0 = b * (inv * (d' - e) - z * (c' - c0)) := by grind
    generalize inv * (d' - e) - z * (c' - c0) = j at h2
    have h3 : b * (t * j - (d' - e)) = 0 := by grind
    have h4 := (Int.mul_eq_zero.mp h3).resolve_left (by omega)
    refine ⟨j, ?_, by omega, by omega⟩
    refine Classical.byContradiction fun n => ?_
    have : b * j ≤ b * (-1) := Int.mul_le_mul_of_nonneg_left (by omega) (by omega)
    omega
  by_cases hs : 0 < g * h - g * t * c0
  · rw [if_pos hs] at hc
    obtain ⟨u1, u2⟩ := up_div (s := g * h - g * t * c0) M0
    generalize (g * h - g * t * c0 + g * t * b - 1) / (g * t * b) = k at hc u1 u2
    have k0 : 0 ≤ k := by
      refine Classical.byContradiction fun n => ?_
      have : g * t * b * k ≤ g * t * b * 0 := Int.mul_le_mul_of_nonneg_left (by omega) (by omega)
      omega
    have kb : 0 ≤ k * b := Int.mul_nonneg k0 (by omega)
    refine ⟨by omega, t * k + e, ?_, by subst hc; grind, fun c' d' hc' hd' h' => ?_⟩
    · refine Classical.byContradiction fun n => ?_
      have a : g * b * (t * k + e) ≤ g * b * (-1) := Int.mul_le_mul_of_nonneg_left (by omega) (by omega)
      have b' : g * t * b * k - (g * h - g * t * c0) = g * b * (t * k + e) := by grind
      omega
    · obtain ⟨j, j0, rfl, rfl⟩ := other c' d' hc' hd' h'
      have kj : k ≤ j := by
        refine Classical.byContradiction fun n => ?_
        have a : g * t * b * j ≤ g * t * b * (k - 1) := Int.mul_le_mul_of_nonneg_left (by omega) (by omega)
        have p : 0 ≤ g * b * (e + t * j) := Int.mul_nonneg (by omega) hd'
        have b' : g * t * b * j - (g * h - g * t * c0) = g * b * (e + t * j) := by grind
        omega
      have : k * b ≤ j * b := Int.mul_le_mul_of_nonneg_right kj (by omega)
      have e1 : b * j = j * b := Int.mul_comm ..
      omega
  · rw [if_neg hs] at hc
    subst hc
    refine ⟨by omega, e, ?_, by grind, fun c' d' hc' hd' h' => ?_⟩
    · refine Classical.byContradiction fun n => ?_
      have : g * b * e ≤ g * b * (-1) := Int.mul_le_mul_of_nonneg_left (by omega) (by omega)
      omega
    · obtain ⟨j, j0, rfl, rfl⟩ := other c' d' hc' hd' h'
      have := Int.mul_nonneg (show 0 ≤ b by omega) j0
      omega
/-- one step of the way to an inverse -/
structure Stp (N M : Int) (rest other factor more : Int) : Prop where
  r0 : 0 ≤ rest
  o0 : 0 ≤ other
  lt : other < rest
  rle : rest ≤ M
  a : ∃ z, rest = factor * N + z * M
  b : ∃ z, other = more * N + z * M
  bd : factor.natAbs * other.natAbs + more.natAbs * rest.natAbs ≤ M.natAbs
  gc : Nat.gcd rest.natAbs other.natAbs = Nat.gcd N.natAbs M.natAbs
theorem stp_start {N M : Int} (hN : 0 ≤ N) (hM : 0 < M) : Stp N M M (N % M) 0 1 := by
  refine ⟨by omega, Int.emod_nonneg _ (by omega), Int.emod_lt_of_pos _ hM, by omega, ⟨1, by omega⟩, ⟨-(N / M), ?_⟩, by simp, ?_⟩
  · have := Int.mul_ediv_add_emod N M
    rw [Int.neg_mul, Int.mul_comm (N / M)]
    omega
  · obtain ⟨n, rfl⟩ := Int.eq_ofNat_of_zero_le hN
    obtain ⟨m, rfl⟩ := Int.eq_ofNat_of_zero_le (Int.le_of_lt hM)
    rw [← Int.natCast_emod]
    show Nat.gcd m (n % m) = Nat.gcd n m
    rw [Nat.gcd_comm m, ← Nat.gcd_rec, Nat.gcd_comm]
theorem Stp.next {N M rest other factor more : Int} (h : Stp N M rest other factor more) (ho : 0 < other) : Stp N M other (rest - rest / other * other) more (factor - rest / other * more) := by
  obtain ⟨r0, o0, lt, rle, ⟨z1, a⟩, ⟨z2, b⟩, bd, gc⟩ := h
  have e : rest - rest / other * other = rest % other := by
    have := Int.mul_ediv_add_emod rest other
    rw [Int.mul_comm] at this
    omega
  have t0 : 0 ≤ rest / other := Int.ediv_nonneg r0 (by omega)
  have hm := Int.emod_nonneg rest (show other ≠ 0 by omega)
  refine ⟨o0, by rw [e]; exact hm, by rw [e]; exact Int.emod_lt_of_pos _ ho, by omega, ⟨z2, b⟩, ⟨z1 - rest / other * z2, ?_⟩, ?_, ?_⟩
  · generalize rest / other = t at *
    grind
  · obtain ⟨t, ht⟩ := Int.eq_ofNat_of_zero_le t0
    have l1 : (factor - rest / other * more).natAbs ≤ factor.natAbs + t * more.natAbs := by
      have a1 := Int.natAbs_sub_le factor (rest / other * more)
      rw [Int.natAbs_mul, ht] at a1
      rw [ht]
      exact a1
    have l2 : (rest - rest / other * other).natAbs + t * other.natAbs = rest.natAbs := by
      have a1 := Int.mul_ediv_add_emod rest other
      rw [e]
      rw [ht] at a1
      have p1 : ((t * other.natAbs : Nat) : Int) = other * t := by
        rw [Int.natCast_mul, Int.natAbs_of_nonneg o0, Int.mul_comm]
      have p2 : (((rest % other).natAbs : Nat) : Int) = rest % other := Int.natAbs_of_nonneg hm
      have p3 : ((rest.natAbs : Nat) : Int) = rest := Int.natAbs_of_nonneg r0
      have a2 : other * (t : Int) + rest % other = rest := a1
      omega
    generalize (factor - rest / other * more).natAbs = F at l1 ⊢
    generalize (rest - rest / other * other).natAbs = R at l2 ⊢
    generalize more.natAbs = m at *
    generalize other.natAbs = o at *
    generalize rest.natAbs = r at *
    generalize factor.natAbs = f at *
    have h1 : F * o ≤ (f + t * m) * o := Nat.mul_le_mul_right _ l1
    have h2 : m * R + m * (t * o) = m * r := by rw [← Nat.mul_add, l2]
    have h3 : (f + t * m) * o = f * o + m * (t * o) := by rw [Nat.add_mul, Nat.mul_comm t m, Nat.mul_assoc]
    omega
  · rw [e]
    obtain ⟨r, rfl⟩ := Int.eq_ofNat_of_zero_le r0
    obtain ⟨o, rfl⟩ := Int.eq_ofNat_of_zero_le o0
    rw [← Int.natCast_emod]
    show Nat.gcd o (r % o) = _
    rw [← gc, Nat.gcd_comm o, ← Nat.gcd_rec, Nat.gcd_comm]
    rfl
theorem Stp.done {N M rest factor more : Int} (h : Stp N M rest 0 factor more) (c : Nat.gcd N.natAbs M.natAbs = 1) : ∃ z, factor * N = 1 + z * M := by
  obtain ⟨r0, _, _, _, ⟨z1, a⟩, _, _, gc⟩ := h
  have : rest.natAbs = 1 := by
    rw [← c, ← gc]
    simp
  exact ⟨-z1, by rw [Int.neg_mul]; omega⟩
theorem Stp.small {N M rest other factor more : Int} (h : Stp N M rest other factor more) (ho : 0 < other) : factor.natAbs ≤ M.natAbs ∧ more.natAbs ≤ M.natAbs ∧ rest.natAbs ≤ rest.natAbs := by
  have bd := h.bd
  have r1 : 1 ≤ rest.natAbs := by have := h.lt; omega
  have o1 : 1 ≤ other.natAbs := by omega
  have a := Nat.le_mul_of_pos_right factor.natAbs o1
  have b := Nat.le_mul_of_pos_right more.natAbs r1
  exact ⟨by omega, by omega, Nat.le_refl _⟩
end LM

set_option Elab.async false
set_option linter.all false
set_option maxRecDepth 100000
set_option maxHeartbeats 8000000
set_option exponentiation.threshold 1000
namespace K39K
open K39 PySem PySem.Spec PyProof.Rows L2 CK SX KM NM
section
variable {P : Program} {w : World} {K : PySem.W.Frag} {mg : Str → Option Value} {base : Heap} {C CO : Addr}
def sp_need_power (CO : Addr) : Sp := fun vs H Q _ => ∃ (a : Addr) (ps : List NM.Pn), vs = [.ref a] ∧ OT CO H a 1 ps ∧ (∃ p ∈ ps, isPow p = true) ∧ ∀ H', Same H H' → Q .non H'
theorem c_need_power_text (T : Txt K mg C CO) : C8.Cal P w K mg base 4 "need_power_text" (sp_need_power CO) [] := by
  refine calF T.d_need_power_text sc_need_power_text (fun vs H Q E h => ?_) (fun f cdv A outer s H vs Q E hr h => ?_)
  · obtain ⟨_, _, rfl, _⟩ := h; rfl
  · obtain ⟨a, ps, rfl, oa, ⟨p, hp, z⟩, q⟩ := h
    obtain ⟨l, ⟨dx, ha⟩, ga⟩ := id oa
    refine ⟨_, (pss_cons (ps_expr (C8.pe_c (c_need_text_along T) hr (by decide) (by rfl) (pa_cons (pv 0) pa_nil)))
    (pss_one (ps_if (pt_not (pt_truth (C8.pe_c (c_powers_in T) hr (by decide) (by rfl) (pa_cons (C8.pe_mt0 (m_OpenText_pieces T) hr (by decide) (pv 0)) pa_nil)) (by intro _; rfl)))
    (pss_one ps_never)
    pss_nil))), ?_⟩
    refine ⟨_, rfl, a, ps, rfl, oa, ?_⟩
    refine ⟨_, rfl, a, dx, _, rfl, ha, (OF_no l 1).1, a, 1, ps, rfl, oa, fun L1 H1 s1 n1 g1 => ?_⟩
    refine ⟨L1, 1, ps, rfl, g1.at_, g1.len, g1.few, fun L2 H2 s2 pl2 => ?_⟩
    obtain ⟨us, hus, pus⟩ := pl2
    have lu := pus.len
    have l0 := List.length_pos_of_mem (List.mem_filter.mpr ⟨hp, z⟩)
    exact ⟨true, .inl ⟨_, .inl (.inl hus), by
      cases us with
      | nil => simp at lu; omega
      | cons _ _ => rfl⟩, iteF (q H2 (s1.trans s2))⟩
def sp_inverse : Sp := fun vs H Q _ => ∃ (n m : Nat), vs = [.int n, .int m] ∧ 1 ≤ m ∧ m < 2 ^ 200 ∧ Nat.gcd n m = 1 ∧ ∀ r : Nat, r < m → (∃ z : Int, (r : Int) * n = 1 + z * m) → ∀ H', Same H H' → Q (.int r) H'
theorem c_inverse (T : Txt K mg C CO) : C8.Cal P w K mg base 1 "inverse" sp_inverse [] := by
  refine calF T.d_inverse sc_inverse (fun vs H Q E h => ?_) (fun f cdv A outer s H vs Q E hr h => ?_)
  · obtain ⟨_, _, rfl, _⟩ := h; rfl
  · obtain ⟨n, m, rfl, m1, hm, hg, q⟩ := h
    refine ⟨_, (pss_cons (ps_par (i := 2) (j := 3) (by rfl) sc_inverse.nd rfl rfl (by decide) rfl rfl (pa_cons (pv 1) (pa_cons (pe_op op_modN (pv 0) (pv 1)) pa_nil)) (by rfl))
    (pss_cons (ps_asg (pe_tup (pa_cons pe_int (pa_cons pe_int pa_nil))) (pg_two (K := K) (i := 4) (j := 5) rfl rfl sc_inverse.nd rfl rfl (Or.inl rfl) (Or.inl rfl)))
    (pss_cons (ps_while PassesOwn.never (pt_truth (pv 3) (by intro _; rfl))
    (pss_cons (ps_set (i := 6) sc_inverse.nd rfl (Or.inl rfl) (pe_op op_fdivW (pv 2) (pv 3)))
    (pss_cons (ps_par (i := 2) (j := 3) (by rfl) sc_inverse.nd rfl rfl (by decide) rfl rfl (pa_cons (pv 3) (pa_cons (pe_op op_sub (pv 2) (pe_op op_mulW (pv 6) (pv 3))) pa_nil)) (by rfl))
    (pss_one (ps_par (i := 4) (j := 5) (by rfl) sc_inverse.nd rfl rfl (by decide) rfl rfl (pa_cons (pv 5) (pa_cons (pe_op op_sub (pv 4) (pe_op op_mulW (pv 6) (pv 5))) pa_nil)) (by rfl))))))
    (pss_one (ps_ret (pe_op op_modN (pv 4) (pv 1))))))), ?_⟩
    refine ⟨_, rfl, _, rfl, _, rfl, _, _, rfl, rfl, (by omega : ((m : Nat) : Int) ≠ 0), _, _, rfl, by show 2 ≤ sizeLine; decide, fun t nt => ⟨t, _, rfl, .inl (.inl upd_same), rfl, _, _, rfl, _, _, rfl, rfl, ?_⟩⟩
    have e0 : Int.fmod (n : Int) (m : Int) = (n : Int) % (m : Int) := Int.fmod_eq_emod_of_nonneg _ (by omega)
    dsimp only
    rw [e0]
    have sS := LM.stp_start (N := n) (M := m) (by omega) (by omega)
    refine while_by (fun σ H' => H' = upd H t (.tup [.int 0, .int 1]) ∧ ∃ (r o fa mo : Int) (y : Option V), σ = [some (.int n), some (.int m), some (.int r), some (.int o), some (.int fa), some (.int mo), y] ∧ LM.Stp n m r o fa mo)
      (fun σ _ => match σ with | [_, _, _, some (.int o), _, _, _] => o.toNat | _ => 0) ⟨rfl, _, _, _, _, none, rfl, sS⟩ (fun σ H' p => ?_) ?_
    · obtain ⟨rfl, r, o, fa, mo, y, rfl, st⟩ := p
      have sT := sameNew (o := .tup [.int 0, .int 1]) nt
      have r0 := st.r0
      have o0 := st.o0
      have rle := st.rle
      have lt := st.lt
      by_cases z : 0 < o
      · obtain ⟨fm, mm, _⟩ := st.small z
        have nx := st.next z
        have t0 : 0 ≤ r / o := Int.ediv_nonneg r0 o0
        have tl : r / o ≤ r := Int.ediv_le_self _ r0
        refine ⟨_, rfl, true, (by show true = (o != 0); symm; rw [bne_iff_ne]; omega), iteT ?_⟩
        refine ⟨_, rfl, _, rfl, _, _, rfl, rfl, wide_div (b := 200) z (by omega) (by decide) (by decide), ?_⟩
        refine ⟨_, rfl, _, rfl, _, rfl, _, rfl, _, _, rfl, rfl, wide_mul (a := 200) (b := 200) (by omega) (by omega) (by decide) (by decide) (by decide), _, _, rfl, rfl, _, _, rfl, ?_⟩
        refine ⟨_, rfl, _, rfl, _, rfl, _, rfl, _, _, rfl, rfl, wide_mul (a := 200) (b := 200) (by omega) (by omega) (by decide) (by decide) (by decide), _, _, rfl, rfl, _, _, rfl, ?_⟩
        refine ⟨⟨rfl, _, _, _, _, _, rfl, nx⟩, ?_⟩
        have l1 := nx.lt
        have l2 := nx.o0
        show (r - r / o * o).toNat < o.toNat
        omega
      · have z0 : o = 0 := by omega
        subst z0
        refine ⟨_, rfl, false, (by show false = ((0 : Int) != 0); rfl), iteF ?_⟩
        refine ⟨_, rfl, _, rfl, _, _, rfl, rfl, (by omega : ((m : Nat) : Int) ≠ 0), ?_⟩
        obtain ⟨y1, hy⟩ := st.done hg
        have e1 : Int.fmod fa (m : Int) = fa % (m : Int) := Int.fmod_eq_emod_of_nonneg _ (by omega)
        have a1 := Int.emod_nonneg fa (show (m : Int) ≠ 0 by omega)
        have a2 := Int.emod_lt_of_pos fa (show 0 < (m : Int) by omega)
        have a3 := Int.mul_ediv_add_emod fa m
        dsimp only
        rw [e1]
        obtain ⟨k, hk⟩ := Int.eq_ofNat_of_zero_le a1
        rw [hk]
        refine q k (by omega) ⟨y1 - fa / m * n, ?_⟩ _ sT
        rw [← hk]
        generalize fa / (m : Int) = d at *
        generalize fa % (m : Int) = e at *
        grind
    · intro σ H' Q1 Q2 hq h
      obtain ⟨a, ha, b, hb, h⟩ := h
      exact ⟨a, ha, b, hb, hq _ _ h⟩
end
end K39K

set_option Elab.async false
set_option linter.all false
set_option maxRecDepth 100000
set_option maxHeartbeats 8000000
set_option exponentiation.threshold 1000
namespace K39K
open K39 PySem PySem.Spec PyProof.Rows L2 CK SX KM NM
theorem tnext_eq (D : Ends) (σ : L2.St) (H : Hp) : tNext D σ H = D.nx σ H := rfl
section
variable {P : Program} {w : World} {K : PySem.W.Frag} {mg : Str → Option Value} {base : Heap} {C CO : Addr}
def sp_length_line : Sp := fun vs H Q _ => ∃ (a b : Addr) (A0 A1 B0 B1 : Nat), vs = [.ref a, .ref b] ∧ FT H a [A0, A1] ∧ FT H b [B0, B1] ∧ 1 ≤ A1 ∧ 1 ≤ B1 ∧ A0 < 2 ^ 150 ∧ A1 < 2 ^ 150 ∧ B0 < 2 ^ 150 ∧ B1 < 2 ^ 150 ∧
  (∀ t sp H', Same H H' → (∀ c d, A0 + A1 * c ≠ B0 + B1 * d) → H' t = some (.tup [.non, .ref sp]) → H' sp = some (.tup [.int (B1 / Nat.gcd A1 B1 : Nat), .int (A1 / Nat.gcd A1 B1 : Nat)]) → Q (.ref t) H') ∧
  (∀ t p sp c d H', Same H H' → A0 + A1 * c = B0 + B1 * d → (∀ c' d', A0 + A1 * c' = B0 + B1 * d' → c ≤ c') → H' t = some (.tup [.ref p, .ref sp]) → H' p = some (.tup [.int (c : Nat), .int (d : Nat)]) → H' sp = some (.tup [.int (B1 / Nat.gcd A1 B1 : Nat), .int (A1 / Nat.gcd A1 B1 : Nat)]) → Q (.ref t) H')
theorem c_length_line (T : Txt K mg C CO) : C8.Cal P w K mg base 2 "length_line" sp_length_line [] := by
  refine calF T.d_length_line sc_length_line (fun vs H Q E h => ?_) (fun f cdv A outer s H vs Q E hr h => ?_)
  · obtain ⟨_, _, _, _, _, _, rfl, _⟩ := h; rfl
  · obtain ⟨a, b, A0, A1, B0, B1, rfl, ha, hb, A1p, B1p, a0, a1, b0, b1, q1, q2⟩ := h
    have ha : H a = some (.tup [.int (A0 : Nat), .int (A1 : Nat)]) := ha
    have hb : H b = some (.tup [.int (B0 : Nat), .int (B1 : Nat)]) := hb
    refine ⟨_, (pss_cons (ps_set (i := 2) sc_length_line.nd rfl (Or.inl rfl) (pe_callBfun cr_gcd (by rfl) T.g_gcd (pa_cons (pe_ix ix_tup (pv 0) pe_int (fun _ _ => rfl)) (pa_cons (pe_ix ix_tup (pv 1) pe_int (fun _ _ => rfl)) pa_nil))))
    (pss_cons (ps_par (i := 3) (j := 4) (by rfl) sc_length_line.nd rfl rfl (by decide) rfl rfl (pa_cons (pe_op op_fdivW (pe_ix ix_tup (pv 1) pe_int (fun _ _ => rfl)) (pv 2)) (pa_cons (pe_op op_fdivW (pe_ix ix_tup (pv 0) pe_int (fun _ _ => rfl)) (pv 2)) pa_nil)) (by rfl))
    (pss_cons (ps_set (i := 5) sc_length_line.nd rfl (Or.inl rfl) (pe_op op_sub (pe_ix ix_tup (pv 1) pe_int (fun _ _ => rfl)) (pe_ix ix_tup (pv 0) pe_int (fun _ _ => rfl))))
    (pss_cons (ps_if (pt_truth (pe_op op_modN (pv 5) (pv 2)) (by intro _; rfl))
    (pss_one (ps_ret (pe_tup (pa_cons pe_non (pa_cons (pe_tup (pa_cons (pv 3) (pa_cons (pv 4) pa_nil))) pa_nil)))))
    pss_nil)
    (pss_cons (ps_set (i := 6) sc_length_line.nd rfl (Or.inl rfl) (pe_op op_modN (pe_op op_mulW (pe_op op_fdivW (pv 5) (pv 2)) (C8.pe_c (c_inverse T) hr (by decide) (by rfl) (pa_cons (pv 4) (pa_cons (pv 3) pa_nil)))) (pv 3)))
    (pss_cons (ps_set (i := 7) sc_length_line.nd rfl (Or.inl rfl) (pe_op op_sub (pv 5) (pe_op op_mulW (pe_ix ix_tup (pv 0) pe_int (fun _ _ => rfl)) (pv 6))))
    (pss_cons (ps_if (pt_cmpR op_gt (pv 7) pe_int (nomark _))
    (pss_one (ps_aug (i := 6) sc_length_line.nd rfl (.inl rfl) (pe_op op_mulW (pe_op op_fdivW (pe_op op_sub (pe_op op_add (pv 7) (pe_op op_mulW (pe_ix ix_tup (pv 0) pe_int (fun _ _ => rfl)) (pv 3))) pe_int) (pe_op op_mulW (pe_ix ix_tup (pv 0) pe_int (fun _ _ => rfl)) (pv 3))) (pv 3)) ip_add))
    pss_nil)
    (pss_one (ps_ret (pe_tup (pa_cons (pe_tup (pa_cons (pv 6) (pa_cons (pe_op op_fdivW (pe_op op_sub (pe_op op_add (pe_ix ix_tup (pv 0) pe_int (fun _ _ => rfl)) (pe_op op_mulW (pe_ix ix_tup (pv 0) pe_int (fun _ _ => rfl)) (pv 6))) (pe_ix ix_tup (pv 1) pe_int (fun _ _ => rfl))) (pe_ix ix_tup (pv 1) pe_int (fun _ _ => rfl))) pa_nil))) (pa_cons (pe_tup (pa_cons (pv 3) (pa_cons (pv 4) pa_nil))) pa_nil)))))))))))), ?_⟩
    refine ⟨_, rfl, a, _, 1, .int (A1 : Nat), rfl, rfl, .inl (.inl ha), atI_nat (j := 1) rfl, _, rfl, b, _, 1, .int (B1 : Nat), rfl, rfl, .inl (.inl hb), atI_nat (j := 1) rfl, _, _, rfl, ?_⟩
    have gg : (((A1 : Nat) : Int)).natAbs.gcd (((B1 : Nat) : Int)).natAbs = Nat.gcd A1 B1 := rfl
    dsimp only
    rw [gg]
    have g1 : 1 ≤ Nat.gcd A1 B1 := Nat.gcd_pos_of_pos_left _ A1p
    obtain ⟨u, hu⟩ := Nat.gcd_dvd_left A1 B1
    obtain ⟨v, hv⟩ := Nat.gcd_dvd_right A1 B1
    have eu : A1 / Nat.gcd A1 B1 = u := by
      conv => lhs; arg 1; rw [hu]
      exact Nat.mul_div_cancel_left _ g1
    have ev : B1 / Nat.gcd A1 B1 = v := by
      conv => lhs; arg 1; rw [hv]
      exact Nat.mul_div_cancel_left _ g1
    have cop : Nat.gcd u v = 1 := by rw [← eu, ← ev]; exact Nat.gcd_div_gcd_div_gcd_of_pos_left A1p
    have gle : Nat.gcd A1 B1 ≤ A1 := Nat.gcd_le_left _ A1p
    rw [eu, ev] at q1 q2
    generalize Nat.gcd A1 B1 = g at *
    refine ⟨_, rfl, b, _, 1, .int (B1 : Nat), rfl, rfl, .inl (.inl hb), atI_nat (j := 1) rfl, _, rfl, _, _, rfl, rfl, wide_div (b := 200) (by omega) (by omega) (by decide) (by decide), _, rfl, a, _, 1, .int (A1 : Nat), rfl, rfl, .inl (.inl ha), atI_nat (j := 1) rfl, _, rfl, _, _, rfl, rfl, wide_div (b := 200) (by omega) (by omega) (by decide) (by decide), _, _, rfl, ?_⟩
    have ev' : ((B1 : Nat) : Int) / ((g : Nat) : Int) = (v : Nat) := by rw [← ev]; rfl
    have eu' : ((A1 : Nat) : Int) / ((g : Nat) : Int) = (u : Nat) := by rw [← eu]; rfl
    dsimp only
    rw [ev', eu']
    refine ⟨_, rfl, b, _, 0, .int (B0 : Nat), rfl, rfl, .inl (.inl hb), atI_nat (j := 0) rfl, _, rfl, a, _, 0, .int (A0 : Nat), rfl, rfl, .inl (.inl ha), atI_nat (j := 0) rfl, _, _, rfl, rfl, ?_⟩
    dsimp only
    have gz : (((g : Nat) : Int)) ≠ 0 := by omega
    have efm : Int.fmod ((B0 : Int) - (A0 : Int)) (g : Int) = ((B0 : Int) - (A0 : Int)) % (g : Int) := Int.fmod_eq_emod_of_nonneg _ (by omega)
    have A1e : ((A1 : Nat) : Int) = (g : Int) * (u : Int) := by rw [← Int.natCast_mul, ← hu]
    have B1e : ((B1 : Nat) : Int) = (g : Int) * (v : Int) := by rw [← Int.natCast_mul, ← hv]
    have u1 : 1 ≤ u := Nat.pos_of_ne_zero fun z => by rw [z, Nat.mul_zero] at hu; omega
    have v1 : 1 ≤ v := Nat.pos_of_ne_zero fun z => by rw [z, Nat.mul_zero] at hv; omega
    have vle : v ≤ B1 := by rw [← ev]; exact Nat.div_le_self _ _
    have ule : u ≤ A1 := by rw [← eu]; exact Nat.div_le_self _ _
    refine ⟨_, rfl, _, rfl, _, _, rfl, rfl, gz, ?_⟩
    dsimp only
    rw [efm]
    by_cases dv : ((B0 : Int) - (A0 : Int)) % (g : Int) = 0
    rotate_left
    · refine ⟨true, (by show true = (((B0 : Int) - (A0 : Int)) % (g : Int) != 0); symm; rw [bne_iff_ne]; exact dv), iteT ?_⟩
      refine ⟨_, rfl, _, rfl, by show 2 ≤ sizeLine; decide, fun sp nsp => ⟨by show 2 ≤ sizeLine; decide, fun t nt => ?_⟩⟩
      have ssp := sameNew (o := .tup [.int (v : Nat), .int (u : Nat)]) nsp
      have st := sameNew (o := .tup [.non, .ref sp]) nt
      refine q1 t sp _ (ssp.trans st) (fun c d e => dv ?_) upd_same (st _ _ upd_same)
      have e' : (A0 : Int) + (A1 : Int) * c = (B0 : Int) + (B1 : Int) * d := by exact_mod_cast e
      rw [A1e, B1e] at e'
      have : (B0 : Int) - (A0 : Int) = (g : Int) * ((u : Int) * c - (v : Int) * d) := by grind
      rw [this, Int.mul_emod_right]
    refine ⟨false, (by show false = (((B0 : Int) - (A0 : Int)) % (g : Int) != 0); rw [dv]; rfl), iteF ?_⟩
    rw [tnext_eq]
    have he := Int.mul_ediv_add_emod ((B0 : Int) - (A0 : Int)) (g : Int)
    rw [dv, Int.add_zero] at he
    have hb1 : (((B0 : Int) - (A0 : Int)) / (g : Int)).natAbs ≤ ((B0 : Int) - (A0 : Int)).natAbs := by
      conv => rhs; rw [← he, Int.natAbs_mul]
      exact Nat.le_mul_of_pos_left _ (by omega)
    refine ⟨_, rfl, _, rfl, _, _, rfl, rfl, wide_div (b := 200) (by omega) (by omega) (by decide) (by decide), ?_⟩
    dsimp only
    generalize ((B0 : Int) - (A0 : Int)) / (g : Int) = h at *
    refine ⟨_, rfl, _, rfl, u, v, rfl, v1, by omega, cop, fun iv ivl ⟨z, hz⟩ H1 s1 => ?_⟩
    have vz : (((v : Nat) : Int)) ≠ 0 := by omega
    refine ⟨_, _, rfl, rfl, wide_mul (a := 200) (b := 200) (by omega) (by omega) (by decide) (by decide) (by decide), _, rfl, _, _, rfl, rfl, vz, ?_⟩
    have ec0 : Int.fmod (h * (iv : Int)) (v : Int) = (h * (iv : Int)) % (v : Int) := Int.fmod_eq_emod_of_nonneg _ (by omega)
    dsimp only
    rw [ec0]
    have c1 := Int.emod_nonneg (h * (iv : Int)) vz
    have c2 := Int.emod_lt_of_pos (h * (iv : Int)) (show 0 < (v : Int) by omega)
    have c3 := Int.mul_ediv_add_emod (h * (iv : Int)) v
    have sol := LM.solve (g := g) hz c3.symm
    generalize (h * (iv : Int)) / (v : Int) = qq at *
    generalize (h * (iv : Int)) % (v : Int) = c0 at *
    have ha1 := s1 _ _ ha
    have hb1' := s1 _ _ hb
    refine ⟨_, rfl, _, rfl, a, _, 1, .int (A1 : Nat), rfl, rfl, .inl (.inl ha1), atI_nat (j := 1) rfl, _, rfl, _, _, rfl, rfl, wide_mul (a := 200) (b := 200) (by omega) (by omega) (by decide) (by decide) (by decide), _, _, rfl, rfl, ?_⟩
    dsimp only
    have hA1b : (A1 : Int) * c0 ≤ 2 ^ 150 * 2 ^ 150 := Int.mul_le_mul (by omega) (by omega) c1 (by decide)
    have hA1n : 0 ≤ (A1 : Int) * c0 := Int.mul_nonneg (by omega) c1
    have hM : (A1 : Int) * (v : Int) ≤ 2 ^ 150 * 2 ^ 150 := Int.mul_le_mul (by omega) (by omega) (by omega) (by decide)
    have hMn : 0 < (A1 : Int) * (v : Int) := Int.mul_pos (by omega) (by omega)
    have eS : (B0 : Int) - (A0 : Int) - (A1 : Int) * c0 = (g : Int) * h - (g : Int) * (u : Int) * c0 := by rw [he, A1e]
    have lst := LM.least (g := g) (t := u) (b := v) (h := h) (inv := iv) (z := z) (c0 := c0) (by omega) (by omega) (by omega) hz c1 c2 sol
    rw [← eS, ← A1e, ← B1e, he] at lst
    -- what is told
    have fin : ∀ (c : Int) (H2 : Hp) (y : Option V), Same H1 H2 → c = (if 0 < (B0 : Int) - (A0 : Int) - (A1 : Int) * c0 then c0 + ((B0 : Int) - (A0 : Int) - (A1 : Int) * c0 + (A1 : Int) * v - 1) / ((A1 : Int) * v) * v else c0) → c.natAbs < 2 ^ 600 →
        tRet (tTup (tCons (tTup (tCons (tVar 6) (tCons (tOp (rI CDivW fun i j => V.int (i / j)) (tOp (rI0 fun i j => V.int (i - j)) (tOp (rI0 fun i j => V.int (i + j)) (tOp (rIxT K) (tVar 0) (tC (V.int 0))) (tOp (rI CMulW fun i j => V.int (i * j)) (tOp (rIxT K) (tVar 0) (tC (V.int 1))) (tVar 6))) (tOp (rIxT K) (tVar 1) (tC (V.int 0)))) (tOp (rIxT K) (tVar 1) (tC (V.int 1)))) tNil))) (tCons (tTup (tCons (tVar 3) (tCons (tVar 4) tNil))) tNil))) ⟨fun _ _ => True, Q, fun _ _ => True, fun _ _ => True⟩ [some (.ref a), some (.ref b), some (.int (g : Nat)), some (.int (v : Nat)), some (.int (u : Nat)), some (.int ((B0 : Int) - (A0 : Int))), some (.int c), y] H2 := fun c H2 y s2 hc hb2 => by
      obtain ⟨cle, d, d0, ed, mn⟩ := lst c hc
      have c0' : 0 ≤ c := by omega
      obtain ⟨cn, rfl⟩ := Int.eq_ofNat_of_zero_le c0'
      obtain ⟨dn, rfl⟩ := Int.eq_ofNat_of_zero_le d0
      have ha2 := s2 _ _ ha1
      have hb2' := s2 _ _ hb1'
      refine ⟨_, rfl, _, rfl, a, _, 0, .int (A0 : Nat), rfl, rfl, .inl (.inl ha2), atI_nat (j := 0) rfl, _, rfl, a, _, 1, .int (A1 : Nat), rfl, rfl, .inl (.inl ha2), atI_nat (j := 1) rfl, _, rfl, _, _, rfl, rfl, wide_mul (a := 200) (b := 600) (by omega) hb2 (by decide) (by decide) (by decide), _, _, rfl, rfl, _, rfl, b, _, 0, .int (B0 : Nat), rfl, rfl, .inl (.inl hb2'), atI_nat (j := 0) rfl, _, _, rfl, rfl, _, rfl, b, _, 1, .int (B1 : Nat), rfl, rfl, .inl (.inl hb2'), atI_nat (j := 1) rfl, _, _, rfl, rfl, wide_div (b := 200) (by omega) (by omega) (by decide) (by decide), ?_⟩
      have eq' : (A0 : Int) + (A1 : Int) * (cn : Int) - (B0 : Int) = (B1 : Int) * (dn : Int) := by omega
      dsimp only
      rw [eq', Int.mul_ediv_cancel_left _ (by omega)]
      refine ⟨by show 2 ≤ sizeLine; decide, fun p np => ⟨_, rfl, _, rfl, by show 2 ≤ sizeLine; decide, fun sp nsp => ⟨by show 2 ≤ sizeLine; decide, fun t nt => ?_⟩⟩⟩
      have sp' := sameNew (o := .tup [.int (cn : Nat), .int (dn : Nat)]) np
      have ssp := sameNew (o := .tup [.int (v : Nat), .int (u : Nat)]) nsp
      have st := sameNew (o := .tup [.ref p, .ref sp]) nt
      refine q2 t p sp cn dn _ ((s1.trans s2).trans (sp'.trans (ssp.trans st))) ?_ (fun c' d' h' => ?_) upd_same ((ssp.trans st) _ _ upd_same) (st _ _ upd_same)
      · have : (A0 : Int) + (A1 : Int) * (cn : Int) = (B0 : Int) + (B1 : Int) * (dn : Int) := by omega
        exact_mod_cast this
      · have h2 : (A0 : Int) + (A1 : Int) * (c' : Int) = (B0 : Int) + (B1 : Int) * (d' : Int) := by exact_mod_cast h'
        have := mn c' d' (by omega) (by omega) (by omega)
        omega
    have sb : ((B0 : Int) - (A0 : Int) - (A1 : Int) * c0).natAbs < 2 ^ 302 := by omega
    generalize hM' : (A1 : Int) * (v : Int) = M at *
    have k0 := LM.up_div (s := (B0 : Int) - (A0 : Int) - (A1 : Int) * c0) hMn
    refine ⟨_, rfl, _, _, rfl, rfl, _, rfl, ite2 (fun c => ?_) (fun c => ?_)⟩
    · have sp : 0 < (B0 : Int) - (A0 : Int) - (A1 : Int) * c0 := of_decide_eq_true c
      have q0 : 0 ≤ ((B0 : Int) - (A0 : Int) - (A1 : Int) * c0 + M - 1) / M := Int.ediv_nonneg (by omega) (by omega)
      have q3 : ((B0 : Int) - (A0 : Int) - (A1 : Int) * c0 + M - 1) / M ≤ (B0 : Int) - (A0 : Int) - (A1 : Int) * c0 + M - 1 := Int.ediv_le_self _ (by omega)
      refine ⟨_, rfl, _, rfl, _, rfl, a, _, 1, .int (A1 : Nat), rfl, rfl, .inl (.inl ha1), atI_nat (j := 1) rfl, _, rfl, _, _, rfl, rfl, wide_mul (a := 200) (b := 200) (by omega) (by omega) (by decide) (by decide) (by decide), _, _, rfl, rfl, _, _, rfl, rfl, _, rfl, a, _, 1, .int (A1 : Nat), rfl, rfl, .inl (.inl ha1), atI_nat (j := 1) rfl, _, rfl, _, _, rfl, rfl, wide_mul (a := 200) (b := 200) (by omega) (by omega) (by decide) (by decide) (by decide), _, _, rfl, rfl, ?_⟩
      dsimp only
      rw [hM']
      have pM : M.natAbs < 2 ^ 302 := by omega
      refine ⟨wide_div (b := 302) hMn pM (by decide) (by decide), _, rfl, _, _, rfl, rfl, wide_mul (a := 310) (b := 200) (by omega) (by omega) (by decide) (by decide) (by decide), _, _, rfl, rfl, ?_⟩
      refine fin _ H1 _ (Same.refl _) (if_pos sp).symm ?_
      generalize hq : ((B0 : Int) - (A0 : Int) - (A1 : Int) * c0 + M - 1) / M = k at *
      have p1 : k * (v : Int) ≤ 2 ^ 304 * 2 ^ 150 := Int.mul_le_mul (by omega) (by omega) (by omega) (by decide)
      have p2 : 0 ≤ k * (v : Int) := Int.mul_nonneg q0 (by omega)
      show (c0 + k * (v : Int)).natAbs < 2 ^ 600
      omega
    · exact fin c0 H1 _ (Same.refl _) (if_neg fun z => c (decide_eq_true z)).symm (by omega)
end
end K39K

set_option Elab.async false
set_option linter.all false
set_option maxRecDepth 100000
set_option maxHeartbeats 8000000
set_option exponentiation.threshold 1000
namespace K39K
open K39 PySem PySem.Spec PyProof.Rows L2 CK SX KM NM
/-- y + s x put for the count -/
def RP (y s : Nat) (ps : List Pn) : List Pn := normL (repl 1 [[y, s]] ps)
theorem lens_ys (y s : Nat) : ∀ g ∈ [[y, s]], g.length = 1 + 1 := fun g hg => by rw [List.mem_singleton.mp hg]; rfl
theorem lenF_ys {y s : Nat} {ps : List Pn} : LenF 1 (repl 1 [[y, s]] ps) := fun p hp => by
  obtain ⟨q, _, rfl⟩ := mem_repl hp
  exact len_insF (lens_ys y s)
theorem wr_ys (x y s : Nat) (ps : List Pn) : NM.wr [x] (repl 1 [[y, s]] ps) = NM.wr [y + s * x] ps := by
  rw [wr_repl (lens_ys y s)]
  rfl
theorem wr_RP (x y s : Nat) (ps : List Pn) : NM.wr [x] (RP y s ps) = NM.wr [y + s * x] ps := by
  unfold RP
  rw [wr_normL lenF_ys, wr_ys]
theorem nm_RP {y s : Nat} {ps : List Pn} : Nm 1 (RP y s ps) := nm_normL lenF_ys
theorem pt1 {pt : List Nat} (h : pt.length = 1) : ∃ x, pt = [x] := by
  match pt, h with
  | [x], _ => exact ⟨x, rfl⟩
theorem RP_RP (y s c t : Nat) (ps : List Pn) : RP c t (RP y s ps) = RP (y + s * c) (s * t) ps :=
  norm_same lenF_ys lenF_ys fun pt hp => by
    obtain ⟨x, rfl⟩ := pt1 hp
    rw [wr_ys, wr_RP, wr_ys]
    congr 2
    rw [Nat.mul_add, Nat.mul_assoc, Nat.add_assoc]
theorem val_mem {pt : List Nat} : ∀ {ps : List Pn}, (∀ p ∈ ps, p.1 ≠ []) → ∀ p ∈ ps, valF p.2 pt ≤ (NM.wr pt ps).length
  | q :: r, h, p, hp => by
    have b := List.length_pos_iff.mpr (h q List.mem_cons_self)
    have e : (NM.wrt pt q).length = q.1.length * NM.valF q.2 pt := WM.pw_len _ _
    have c : NM.valF q.2 pt ≤ q.1.length * NM.valF q.2 pt := Nat.le_mul_of_pos_left _ b
    rw [NM.wr, List.length_append]
    rcases List.mem_cons.mp hp with rfl | hp
    · omega
    · have := val_mem (pt := pt) (fun z hz => h z (List.mem_cons_of_mem _ hz)) p hp
      omega
theorem val_zero (f : F) : valF f [0] = f.headD 0 := by
  unfold valF
  have : dot f.tail [0] = 0 := by
    cases f.tail with
    | nil => rfl
    | cons a l => show a * 0 + dot l [] = 0; cases l <;> rfl
  rw [this, Nat.add_zero]
theorem head_ys (y s : Nat) (f : F) : (insF 1 f [[y, s]]).headD 0 = valF f [y] := by
  rw [← val_zero, val_insF (lens_ys y s)]
  rfl
theorem meas_ys (y s : Nat) : ∀ ps : List Pn, meas (repl 1 [[y, s]] ps) ≤ (NM.wr [y] ps).length + tot ps
  | [] => Nat.zero_le _
  | p :: r => by
    have ih := meas_ys y s r
    have e : repl 1 [[y, s]] (p :: r) = [(p.1, insF 1 p.2 [[y, s]])] ++ repl 1 [[y, s]] r := rfl
    have e2 : (NM.wrt [y] p).length = p.1.length * NM.valF p.2 [y] := WM.pw_len _ _
    have e3 : measP (p.1, insF 1 p.2 [[y, s]]) ≤ p.1.length * valF p.2 [y] + p.1.length := by
      unfold measP
      show p.1.length * ((insF 1 p.2 [[y, s]]).headD 0 + _) ≤ _
      rw [head_ys, Nat.mul_add]
      refine Nat.add_le_add_left ?_ _
      split
      · omega
      · simp
    rw [e, meas_app, meas_one, tot_cons, NM.wr, List.length_append]
    omega
theorem open_ys (y s : Nat) {f : F} (hf : f.length = 1 + 1) (h : isOpen f = false) : isOpen (insF 1 f [[y, s]]) = false := by
  obtain ⟨a, n, rfl⟩ : ∃ a n, f = [a, n] := by
    match f, hf with
    | [a, n], _ => exact ⟨a, n, rfl⟩
  have n0 : n = 0 := by
    have : ([n].any fun x => decide (x ≠ 0)) = false := h
    simpa using this
  subst n0
  show ([0 + 0 * s].any fun x => decide (x ≠ 0)) = false
  simp
theorem opn_ys (y s : Nat) : ∀ {ps : List Pn}, LenF 1 ps → opn (repl 1 [[y, s]] ps) ≤ opn ps
  | [], _ => Nat.zero_le _
  | p :: r, h => by
    have ih := opn_ys y s (ps := r) fun q hq => h q (List.mem_cons_of_mem _ hq)
    have e : repl 1 [[y, s]] (p :: r) = (p.1, insF 1 p.2 [[y, s]]) :: repl 1 [[y, s]] r := rfl
    rw [e, opn_cons, opn_cons]
    have : (if isOpen (insF 1 p.2 [[y, s]]) = true then 1 else 0) ≤ if isOpen p.2 = true then 1 else 0 := by
      cases z : isOpen p.2 with
      | true => rw [if_pos rfl]; split <;> omega
      | false =>
        rw [open_ys y s (h p List.mem_cons_self) z]
        exact Nat.le_refl _
    show (if isOpen (insF 1 p.2 [[y, s]]) = true then 1 else 0) + _ ≤ _
    omega
/-- with y + s x put for the count, within bounds -/
theorem rg_ys {ps : List Pn} {y s Tt W N : Nat} (nm : Nm 1 ps) (low : LowP ps) (t : tot ps ≤ Tt) (o : opn ps ≤ 3) (t2 : Tt ≤ 2000) (wy : (NM.wr [y] ps).length ≤ W) (n : (NM.wr [y + s] ps).length ≤ N) (hN : N ≤ 2 ^ 120) : Rg (W + Tt) N 3 (repl 1 [[y, s]] ps) := by
  have ne : ∀ p ∈ ps, p.1 ≠ [] := fun p hp => (nm.all p hp).ne
  have e1 : NM.wr [1] (repl 1 [[y, s]] ps) = NM.wr [y + s] ps := by rw [wr_ys, Nat.mul_one]
  have ne2 : ∀ p ∈ repl 1 [[y, s]] ps, p.1 ≠ [] := fun p hp => by
    obtain ⟨q, hq, rfl⟩ := mem_repl hp
    exact ne q hq
  have l := tot_len ne
  refine ⟨lenF_ys, fun p hp => ?_, fun p hp => ?_, Nat.le_trans (meas_ys y s ps) (by omega), by rw [e1]; exact n, Nat.le_trans (opn_ys y s nm.lenF) o, by unfold repl; rw [List.length_map]; omega, fun p hp x hx => ?_⟩
  · obtain ⟨q, hq, rfl⟩ := mem_repl hp
    have := tot_mem hq
    show q.1.length ≤ 2000
    omega
  · obtain ⟨q, hq, rfl⟩ := mem_repl hp
    exact low q hq
  · have v := val_mem (pt := [1]) ne2 p hp
    rw [e1] at v
    have lp := lenF_ys p hp
    obtain ⟨a, b, e⟩ : ∃ a b, p.2 = [a, b] := by
      match p.2, lp with
      | [a, b], _ => exact ⟨a, b, rfl⟩
    rw [e] at v hx
    have v : a + (b * 1 + 0) ≤ (NM.wr [y + s] ps).length := v
    have xN : x ≤ N := by
      rcases List.mem_cons.mp hx with z | z
      · omega
      · have := List.mem_singleton.mp z
        omega
    exact Nat.lt_of_le_of_lt (Nat.le_trans xN hN) (by decide)
/-- the length at a count -/
theorem lin_len {ps : List Pn} (h : LenF 1 ps) : ∃ a b, lenP 1 ps = [a, b] ∧ ∀ x, (NM.wr [x] ps).length = a + b * x := by
  have l := len_lenP h
  obtain ⟨a, b, e⟩ : ∃ a b, lenP 1 ps = [a, b] := by
    match lenP 1 ps, l with
    | [a, b], _ => exact ⟨a, b, rfl⟩
  refine ⟨a, b, e, fun x => ?_⟩
  rw [← val_lenP h [x], e]
  show a + (b * x + 0) = _
  rw [Nat.add_zero]
theorem wr_fix {ps : List Pn} (nm : Nm 1 ps) (h : ∀ p ∈ ps, isPow p = false) (x y : Nat) : NM.wr [x] ps = NM.wr [y] ps := by
  suffices ∀ qs : List Pn, (∀ p ∈ qs, NormP 1 p) → (∀ p ∈ qs, isPow p = false) → NM.wr [x] qs = NM.wr [y] qs from this ps nm.all h
  intro qs
  induction qs with
  | nil => intros; rfl
  | cons p r ih =>
    intro a b
    have fx := (a p List.mem_cons_self).fix (b p List.mem_cons_self)
    rw [NM.wr, NM.wr, ih (fun q hq => a q (List.mem_cons_of_mem _ hq)) fun q hq => b q (List.mem_cons_of_mem _ hq)]
    congr 1
    have v : ∀ z, valF (one1 1) [z] = 1 := fun z => by
      show 1 + (0 * z + 0) = 1
      omega
    unfold wrt
    rw [fx, v, v]
theorem has_pow {ps : List Pn} (nm : Nm 1 ps) {x y : Nat} (h : (NM.wr [x] ps).length < (NM.wr [y] ps).length) : ∃ p ∈ ps, isPow p = true := by
  by_cases z : ∃ p ∈ ps, isPow p = true
  · exact z
  · rw [wr_fix nm (fun p hp => by cases e : isPow p with | false => rfl | true => exact absurd ⟨p, hp, e⟩ z) x y] at h
    exact absurd h (Nat.lt_irrefl _)
/-- two progressions in one text, within bounds -/
structure Bs (y s y' s' : Nat) (ps : List Pn) : Prop where
  nm : Nm 1 ps
  low : LowP ps
  tot : tot ps ≤ 100
  few : opn ps ≤ 3
  grow : (NM.wr [0] ps).length < (NM.wr [1] ps).length
  ones : (NM.wr [1] ps).length ≤ 2 ^ 37
  s1 : 1 ≤ s
  s2 : 1 ≤ s'
  b1 : s ≤ 2 ^ 30
  b2 : s' ≤ 2 ^ 30
  b3 : y ≤ 3
  b4 : y' ≤ 3
  w1 : (NM.wr [y] ps).length ≤ 700
  w2 : (NM.wr [y'] ps).length ≤ 700
  due : ∀ c d, y + s * c = y' + s' * d → (∀ c' d', y + s * c' = y' + s' * d' → c ≤ c') → y + s * c ≤ 100 ∧ (NM.wr [y + s * c] ps).length ≤ 700
end K39K

set_option Elab.async false
set_option linter.all false
set_option maxRecDepth 100000
set_option maxHeartbeats 8000000
set_option exponentiation.threshold 1000
namespace K39K
open K39 PySem PySem.Spec PyProof.Rows L2 CK SX KM NM
section
variable {y s y' s' : Nat} {ps : List Pn}
theorem Bs.big (h : Bs y s y' s' ps) {x : Nat} (hx : x ≤ 2 ^ 70) : (NM.wr [x] ps).length ≤ 2 ^ 110 :=
  Nat.le_trans (wr_scale x h.nm.lenF) (Nat.le_trans (Nat.mul_le_mul h.ones (show x + 1 ≤ 2 ^ 71 by omega)) (by decide))
theorem Bs.rg (h : Bs y s y' s' ps) {z t : Nat} (hz : z ≤ 2 ^ 60) (ht : t ≤ 2 ^ 60) (w : (NM.wr [z] ps).length ≤ 700) : Rg 800 (2 ^ 110) 3 (repl 1 [[z, t]] ps) :=
  rg_ys h.nm h.low h.tot h.few (by decide) w (h.big (by omega)) (by decide)
theorem Bs.rgN (h : Bs y s y' s' ps) {z t : Nat} (hz : z ≤ 2 ^ 60) (ht : t ≤ 2 ^ 60) (w : (NM.wr [z] ps).length ≤ 700) : Rg 800 (2 ^ 110) 3 (RP z t ps) :=
  (h.rg hz ht w).norm (by decide) (by decide)
theorem Bs.tn (h : Bs y s y' s' ps) {z t : Nat} (hz : z ≤ 2 ^ 60) (ht : t ≤ 2 ^ 60) (w : (NM.wr [z] ps).length ≤ 700) : Tn (RP z t ps) :=
  (h.rgN hz ht w).tn nm_RP (by decide) (by decide) (by decide)
theorem Bs.pow (h : Bs y s y' s' ps) {z t : Nat} (ht : 1 ≤ t) : ∃ p ∈ RP z t ps, isPow p = true := by
  obtain ⟨a, b, e, l⟩ := lin_len h.nm.lenF
  have g := h.grow
  refine has_pow nm_RP (x := 0) (y := 1) ?_
  rw [wr_RP, wr_RP, l, l]
  rw [l, l] at g
  have : 1 ≤ b := by omega
  have : 1 * 1 ≤ b * t := Nat.mul_le_mul this ht
  rw [Nat.mul_zero, Nat.mul_one, Nat.add_zero, Nat.mul_add b z t]
  omega
/-- the line of the lengths is the line of the progressions -/
theorem line_of {y s : Nat} {ps : List Pn} (h : LenF 1 ps) : ∃ a b A0 A1, lenP 1 ps = [a, b] ∧ (∀ x, (NM.wr [x] ps).length = a + b * x) ∧ lenP 1 (RP y s ps) = [A0, A1] ∧ A0 = a + b * y ∧ A1 = b * s := by
  obtain ⟨a, b, e, l⟩ := lin_len h
  obtain ⟨A0, A1, e2, l2⟩ := lin_len (nm_RP (y := y) (s := s) (ps := ps)).lenF
  have q0 := l2 0
  have q1 := l2 1
  rw [wr_RP, l, Nat.mul_zero, Nat.mul_zero, Nat.add_zero, Nat.add_zero] at q0
  rw [wr_RP, l, Nat.mul_one, Nat.mul_one, Nat.mul_add] at q1
  exact ⟨a, b, A0, A1, e, l, e2, q0.symm, by omega⟩
end
theorem tot_rg {c N k : Nat} {ps : List Pn} (nm : Nm 1 ps) (h : Rg c N k ps) : tot ps ≤ c := by
  rw [← tot_meas nm.all]
  exact h.me
theorem bf_two {a b : Nat} (ha : a ≤ 2 ^ 120) (hb : b ≤ 2 ^ 120) : Bf [a, b] := fun n hn => by
  have : n ≤ 2 ^ 120 := by
    rcases List.mem_cons.mp hn with e | e
    · omega
    · have := List.mem_singleton.mp e
      omega
  exact Nat.lt_of_le_of_lt this (by decide)
section
variable {P : Program} {w : World} {K : PySem.W.Frag} {mg : Str → Option Value} {base : Heap} {C CO : Addr}
def sp_shared (CO : Addr) : Sp := fun vs H Q _ => ∃ (a b : Addr) (ps : List Pn) (y s y' s' : Nat), vs = [.ref a, .ref b] ∧ OT CO H a 1 (RP y s ps) ∧ OT CO H b 1 (RP y' s' ps) ∧ Bs y s y' s' ps ∧
  (∀ t L H', Same H H' → (∀ c d, y + s * c ≠ y' + s' * d) → H' t = some (.tup [.str (Str.ofString "pairs"), .ref L]) → H' L = some (.lst []) → Q (.ref t) H') ∧
  (∀ t p sp c d H', Same H H' → y + s * c = y' + s' * d → (∀ c' d', y + s * c' = y' + s' * d' → c ≤ c') → H' t = some (.tup [.str (Str.ofString "line"), .ref p, .ref sp]) → H' p = some (.tup [.int (c : Nat), .int (d : Nat)]) → H' sp = some (.tup [.int (s' / Nat.gcd s s' : Nat), .int (s / Nat.gcd s s' : Nat)]) → Q (.ref t) H')
theorem c_shared (T : Txt K mg C CO) : C8.Cal P w K mg base 11 "shared" (sp_shared CO) [] := by
  refine calF T.d_shared sc_shared (fun vs H Q E h => ?_) (fun f cdv A outer s H vs Q E hr h => ?_)
  · obtain ⟨_, _, _, _, _, _, _, rfl, _⟩ := h; rfl
  · obtain ⟨a, b, ps, y, s, y', s', rfl, oa, ob, bs, q1, q2⟩ := h
    refine ⟨_, (pss_cons (ps_expr (C8.pe_c (c_need_power_text T) hr (by decide) (by rfl) (pa_cons (pv 0) pa_nil)))
    (pss_cons (ps_expr (C8.pe_c (c_need_power_text T) hr (by decide) (by rfl) (pa_cons (pv 1) pa_nil)))
    (pss_cons (ps_asg (C8.pe_c (c_length_line T) hr (by decide) (by rfl) (pa_cons (C8.pe_c (c_length T) hr (by decide) (by rfl) (pa_cons (pv 0) pa_nil)) (pa_cons (C8.pe_c (c_length T) hr (by decide) (by rfl) (pa_cons (pv 1) pa_nil)) pa_nil))) (pg_two (K := K) (i := 2) (j := 3) rfl rfl sc_shared.nd rfl rfl (Or.inr rfl) (Or.inr rfl)))
    (pss_cons (ps_if (pt_cmpR op_isN (pv 2) pe_non (nomark _))
    (pss_one (ps_ret (pe_tup (pa_cons pe_str (pa_cons (pe_lst pa_nil) pa_nil)))))
    pss_nil)
    (pss_cons (ps_set (i := 4) sc_shared.nd rfl (Or.inl rfl) (C8.pe_c (c_replaced T) hr (by decide) (by rfl) (pa_cons (pv 0) (pa_cons pe_int (pa_cons (pe_lst (pa_cons (pe_tup (pa_cons (pe_ix ix_tup (pv 2) pe_int (fun _ _ => rfl)) (pa_cons (pe_ix ix_tup (pv 3) pe_int (fun _ _ => rfl)) pa_nil))) pa_nil)) pa_nil)))))
    (pss_cons (ps_set (i := 5) sc_shared.nd rfl (Or.inl rfl) (C8.pe_c (c_replaced T) hr (by decide) (by rfl) (pa_cons (pv 1) (pa_cons pe_int (pa_cons (pe_lst (pa_cons (pe_tup (pa_cons (pe_ix ix_tup (pv 2) pe_int (fun _ _ => rfl)) (pa_cons (pe_ix ix_tup (pv 3) pe_int (fun _ _ => rfl)) pa_nil))) pa_nil)) pa_nil)))))
    (pss_cons (ps_if (pt_cmpR (op_eqO (m_OpenText___eq__ T) hr (by decide)) (pv 4) (pv 5) (nomark _))
    (pss_one (ps_ret (pe_tup (pa_cons pe_str (pa_cons (pv 2) (pa_cons (pv 3) pa_nil))))))
    pss_nil)
    (pss_one (ps_ret (pe_tup (pa_cons pe_str (pa_cons (pe_lc (own := [("at", 6)]) (by rfl) sc_shared.nd (pi_list (C8.pe_c (c_agreeing_counts T) hr (by decide) (by rfl) (pa_cons (pv 4) (pa_cons (pv 5) pa_nil)))) (blkOk_by (N := ["one", "other", "pair", "step", "left", "right", "at"]) (sc := C8.fnScope (topS 87)) (own := [("at", 6)]) (by decide +kernel)) (fun _ _ _ _ _ => (pg_name (i := 6) sc_shared.nd rfl (Or.inl rfl))) (fun _ _ _ _ _ => pts_nil) (fun _ _ _ _ _ => (pe_tup (pa_cons (pe_op op_add (pe_ix ix_tupH (pv 2) pe_int (fun _ _ => rfl)) (pe_op op_mulW (pe_ix ix_tupH (pv 3) pe_int (fun _ _ => rfl)) (pv 6))) (pa_cons (pe_op op_add (pe_ix ix_tupH (pv 2) pe_int (fun _ _ => rfl)) (pe_op op_mulW (pe_ix ix_tupH (pv 3) pe_int (fun _ _ => rfl)) (pv 6))) pa_nil))))) pa_nil)))))))))))), ?_⟩
    have b1 := bs.b1
    have b2 := bs.b2
    have b3 := bs.b3
    have b4 := bs.b4
    refine ⟨_, rfl, a, _, rfl, oa, bs.pow bs.s1, fun H1 s1 => ⟨_, rfl, b, _, rfl, ob.same s1, bs.pow bs.s2, fun H2 s2 => ?_⟩⟩
    have s12 := s1.trans s2
    refine ⟨_, rfl, a, 1, _, rfl, oa.same s12, by decide, fun f1 H3 s3 h3 => ⟨_, rfl, b, 1, _, rfl, (ob.same s12).same s3, by decide, fun f2 H4 s4 h4 => ?_⟩⟩
    have h3 := s4 _ _ h3
    have s14 := s12.trans (s3.trans s4)
    obtain ⟨a0, a1, A0, A1, e0, l0, eA, eA0, eA1⟩ := line_of (y := y) (s := s) bs.nm.lenF
    obtain ⟨_, _, B0, B1, e0', l0', eB, eB0, eB1⟩ := line_of (y := y') (s := s') bs.nm.lenF
    rw [e0] at e0'
    cases e0'
    have g := bs.grow
    rw [l0, l0, Nat.mul_zero, Nat.mul_one] at g
    have a1p : 1 ≤ a1 := by omega
    have o1 := bs.ones
    rw [l0, Nat.mul_one] at o1
    have w1' := bs.w1
    have w2' := bs.w2
    have w1 := w1'
    have w2 := w2'
    rw [l0] at w1 w2
    have A1p : 1 * 1 ≤ a1 * s := Nat.mul_le_mul a1p bs.s1
    have B1p : 1 * 1 ≤ a1 * s' := Nat.mul_le_mul a1p bs.s2
    have A1b : a1 * s ≤ 2 ^ 37 * 2 ^ 30 := Nat.mul_le_mul (by omega) b1
    have B1b : a1 * s' ≤ 2 ^ 37 * 2 ^ 30 := Nat.mul_le_mul (by omega) b2
    rw [eA] at h3
    rw [eB] at h4
    have hit : ∀ c d, A0 + A1 * c = B0 + B1 * d ↔ y + s * c = y' + s' * d := fun c d => by
      rw [eA0, eA1, eB0, eB1, Nat.mul_assoc, Nat.mul_assoc, Nat.add_assoc, Nat.add_assoc, ← Nat.mul_add, ← Nat.mul_add]
      constructor
      · intro z
        exact Nat.eq_of_mul_eq_mul_left a1p (Nat.add_left_cancel z)
      · intro z
        rw [z]
    have gg : Nat.gcd A1 B1 = a1 * Nat.gcd s s' := by rw [eA1, eB1, Nat.gcd_mul_left]
    have d1 : B1 / Nat.gcd A1 B1 = s' / Nat.gcd s s' := by rw [gg, eB1, Nat.mul_div_mul_left _ _ a1p]
    have d2 : A1 / Nat.gcd A1 B1 = s / Nat.gcd s s' := by rw [gg, eA1, Nat.mul_div_mul_left _ _ a1p]
    have g1 : 1 ≤ Nat.gcd s s' := Nat.gcd_pos_of_pos_left _ bs.s1
    have tb1 : s' / Nat.gcd s s' ≤ s' := Nat.div_le_self _ _
    have tb2 : s / Nat.gcd s s' ≤ s := Nat.div_le_self _ _
    have tst : s * (s' / Nat.gcd s s') = s' * (s / Nat.gcd s s') := by
      obtain ⟨u, hu⟩ := Nat.gcd_dvd_left s s'
      obtain ⟨v, hv⟩ := Nat.gcd_dvd_right s s'
      generalize Nat.gcd s s' = g0 at *
      have e1 : s / g0 = u := by rw [hu]; exact Nat.mul_div_cancel_left _ g1
      have e2 : s' / g0 = v := by rw [hv]; exact Nat.mul_div_cancel_left _ g1
      rw [e1, e2, hu, hv, Nat.mul_right_comm]
    refine ⟨f1, f2, A0, A1, B0, B1, rfl, h3, h4, by omega, by omega, by omega, by omega, by omega, by omega, fun t sp H5 s5 no ht hsp => ?_, fun t p sp c d H5 s5 yes min ht hp hsp => ?_⟩
    · rw [d1, d2] at hsp
      have s15 := s14.trans s5
      refine ⟨t, _, rfl, .inl (.inl ht), rfl, _, _, rfl, _, _, rfl, rfl, ?_⟩
      refine ⟨_, rfl, rfl, true, rfl, iteT ?_⟩
      refine ⟨by show 0 ≤ sizeLine; omega, fun L nL => ⟨by show 2 ≤ sizeLine; decide, fun tt ntt => ?_⟩⟩
      have sL := sameNew (o := .lst []) nL
      have st := sameNew (o := .tup [.str (Str.ofString "pairs"), .ref L]) ntt
      exact q1 tt L _ (s15.trans (sL.trans st)) (fun c d z => no c d ((hit c d).mpr z)) upd_same (st _ _ upd_same)
    · rw [d1, d2] at hsp
      have yes' := (hit c d).mp yes
      have min' : ∀ c' d', y + s * c' = y' + s' * d' → c ≤ c' := fun c' d' z => min c' d' ((hit c' d').mpr z)
      obtain ⟨z1, wz⟩ := bs.due c d yes' min'
      have s15 := s14.trans s5
      refine ⟨t, _, rfl, .inl (.inl ht), rfl, _, _, rfl, _, _, rfl, rfl, ?_⟩
      refine ⟨_, rfl, rfl, false, rfl, iteF ?_⟩
      rw [tnext_eq]
      have hp0 : H5 p = some (.tup [.int (c : Nat), .int (d : Nat)]) := hp
      generalize ht1 : s' / Nat.gcd s s' = t1 at *
      generalize ht2 : s / Nat.gcd s s' = t2 at *
      have cb : c ≤ 100 := by
        have : 1 * c ≤ s * c := Nat.mul_le_mul_right _ bs.s1
        omega
      have db : d ≤ 100 := by
        have : 1 * d ≤ s' * d := Nat.mul_le_mul_right _ bs.s2
        omega
      have st1 : s * t1 ≤ 2 ^ 30 * 2 ^ 30 := Nat.mul_le_mul b1 (by omega)
      have rg1 := rg_ys (y := c) (s := t1) (nm_RP (y := y) (s := s) (ps := ps)) (bs.rgN (t := s) (by omega) (by omega) w1').low (Tt := 800) (tot_rg nm_RP (bs.rgN (t := s) (by omega) (by omega) w1')) (bs.rgN (t := s) (by omega) (by omega) w1').few (by decide) (W := 700) (by rw [wr_RP]; exact wz) (N := 2 ^ 110) (by rw [wr_RP, Nat.mul_add, ← Nat.add_assoc]; exact bs.big (by omega)) (by decide)
      have rg2 := rg_ys (y := d) (s := t2) (nm_RP (y := y') (s := s') (ps := ps)) (bs.rgN (t := s') (by omega) (by omega) w2').low (Tt := 800) (tot_rg nm_RP (bs.rgN (t := s') (by omega) (by omega) w2')) (bs.rgN (t := s') (by omega) (by omega) w2').few (by decide) (W := 700) (by rw [wr_RP, ← yes']; exact wz) (N := 2 ^ 110) (by rw [wr_RP, Nat.mul_add, ← Nat.add_assoc, ← yes', ← tst]; exact bs.big (by omega)) (by decide)
      have eq : RP c t1 (RP y s ps) = RP d t2 (RP y' s' ps) := by rw [RP_RP, RP_RP, yes', tst]
      refine ⟨_, rfl, _, rfl, p, _, 0, .int (c : Nat), rfl, rfl, .inl (.inl hp0), atI_nat (j := 0) rfl, _, rfl, sp, _, 0, .int (t1 : Nat), rfl, rfl, .inl (.inl hsp), atI_nat (j := 0) rfl, by show 2 ≤ sizeLine; decide, fun fa nfa => ⟨by show 1 ≤ sizeLine; decide, fun la nla => ?_⟩⟩
      have sfa := sameNew (o := .tup [.int (c : Nat), .int (t1 : Nat)]) nfa
      have sla := sameNew (o := .lst [.ref fa]) nla
      have s5a := sfa.trans sla
      have s1a := s15.trans s5a
      refine ⟨a, la, 1, 1, _, [[c, t1]], rfl, oa.same s1a, by decide, by decide, ⟨_, upd_same, .cons (sla _ _ upd_same) .nil⟩, rfl, lens_ys c t1, fun z hz => by rw [List.mem_singleton.mp hz]; exact bf_two (by omega) (by omega), fun q hq => ?_, ?_, rg1.wl (by decide), fun x1 H6 s6 ox1 => ?_⟩
      · exact rg1.bf _ (List.mem_map.mpr ⟨q, hq, rfl⟩)
      · have := rg1.me
        show meas (repl 1 [[c, t1]] _) ≤ 2000
        omega
      have s56 := s5a.trans s6
      refine ⟨_, rfl, _, rfl, p, _, 1, .int (d : Nat), rfl, rfl, .inl (.inl (s56 _ _ hp0)), atI_nat (j := 1) rfl, _, rfl, sp, _, 1, .int (t2 : Nat), rfl, rfl, .inl (.inl (s56 _ _ hsp)), atI_nat (j := 1) rfl, by show 2 ≤ sizeLine; decide, fun fb nfb => ⟨by show 1 ≤ sizeLine; decide, fun lb nlb => ?_⟩⟩
      have sfb := sameNew (o := .tup [.int (d : Nat), .int (t2 : Nat)]) nfb
      have slb := sameNew (o := .lst [.ref fb]) nlb
      have s6b := sfb.trans slb
      have s5b := s56.trans s6b
      refine ⟨b, lb, 1, 1, _, [[d, t2]], rfl, ob.same (s15.trans s5b), by decide, by decide, ⟨_, upd_same, .cons (slb _ _ upd_same) .nil⟩, rfl, lens_ys d t2, fun z hz => by rw [List.mem_singleton.mp hz]; exact bf_two (by omega) (by omega), fun q hq => ?_, ?_, rg2.wl (by decide), fun x2 H7 s7 ox2 => ?_⟩
      · exact rg2.bf _ (List.mem_map.mpr ⟨q, hq, rfl⟩)
      · have := rg2.me
        show meas (repl 1 [[d, t2]] _) ≤ 2000
        omega
      have s57 := s5b.trans s7
      have ox1 := ox1.same (s6b.trans s7)
      have ox1 : OT CO H7 x1 1 (RP c t1 (RP y s ps)) := ox1
      have ox2 : OT CO H7 x2 1 (RP d t2 (RP y' s' ps)) := ox2
      rw [eq] at ox1
      obtain ⟨l, ⟨dx, ha⟩, ga⟩ := id ox1
      obtain ⟨l', ⟨dy, hb⟩, gb⟩ := id ox2
      refine ⟨_, rfl, _, rfl, x1, x2, dx, _, dy, _, rfl, rfl, ha, hb, x1, x2, 1, 1, _, _, rfl, ox1, ox2, ⟨_, rfl⟩, _, rfl, ?_⟩
      rw [decide_eq_true (show 1 = 1 from rfl), Bool.true_and, decide_eq_true rfl]
      refine iteT ⟨_, rfl, _, rfl, by show 3 ≤ sizeLine; decide, fun tt ntt => ?_⟩
      have st := sameNew (o := .tup [.str (Str.ofString "line"), .ref p, .ref sp]) ntt
      exact q2 tt p sp c d _ ((s15.trans s57).trans st) yes' min' upd_same (st _ _ (s57 _ _ hp0)) (st _ _ (s57 _ _ hsp))
def sp_shared_text (CO : Addr) : Sp := fun vs H Q _ => ∃ (a b : Addr) (ps : List Pn) (y s y' s' : Nat), vs = [.ref a, .ref b] ∧ OT CO H a 1 (RP y s ps) ∧ OT CO H b 1 (RP y' s' ps) ∧ Bs y s y' s' ps ∧
  (∀ H', Same H H' → (∀ c d, y + s * c ≠ y' + s' * d) → Q .non H') ∧
  (∀ x c d H', Same H H' → y + s * c = y' + s' * d → (∀ c' d', y + s * c' = y' + s' * d' → c ≤ c') → OT CO H' x 1 (RP c (s' / Nat.gcd s s') (RP y s ps)) → Q (.ref x) H')
theorem c_shared_text (T : Txt K mg C CO) : C8.Cal P w K mg base 12 "shared_text" (sp_shared_text CO) [] := by
  refine calF T.d_shared_text sc_shared_text (fun vs H Q E h => ?_) (fun f cdv A outer s H vs Q E hr h => ?_)
  · obtain ⟨_, _, _, _, _, _, _, rfl, _⟩ := h; rfl
  · obtain ⟨a, b, ps, y, s, y', s', rfl, oa, ob, bs, q1, q2⟩ := h
    refine ⟨_, (pss_cons (ps_set (i := 2) sc_shared_text.nd rfl (Or.inl rfl) (C8.pe_c (c_shared T) hr (by decide) (by rfl) (pa_cons (pv 0) (pa_cons (pv 1) pa_nil))))
    (pss_cons (ps_if (pt_cmpR op_eq (pe_ix ix_tup (pv 2) pe_int (fun _ _ => rfl)) pe_str (nomark _))
    (pss_one (ps_ret pe_non))
    pss_nil)
    (pss_one (ps_ret (C8.pe_c (c_replaced T) hr (by decide) (by rfl) (pa_cons (pv 0) (pa_cons pe_int (pa_cons (pe_lst (pa_cons (pe_tup (pa_cons (pe_ix ix_tup (pe_ix ix_tup (pv 2) pe_int (fun _ _ => rfl)) pe_int (fun _ _ => rfl)) (pa_cons (pe_ix ix_tup (pe_ix ix_tup (pv 2) pe_int (fun _ _ => rfl)) pe_int (fun _ _ => rfl)) pa_nil))) pa_nil)) pa_nil)))))))), ?_⟩
    refine ⟨_, rfl, _, rfl, a, b, ps, y, s, y', s', rfl, oa, ob, bs, fun t L H1 s1 no ht hL => ?_, fun t p sp c d H1 s1 yes min ht hp hsp => ?_⟩
    · refine ⟨_, rfl, t, _, 0, .str (Str.ofString "pairs"), rfl, rfl, .inl (.inl ht), atI_nat (j := 0) rfl, rfl, true, rfl, iteT ?_⟩
      exact q1 H1 s1 no
    · refine ⟨_, rfl, t, _, 0, .str (Str.ofString "line"), rfl, rfl, .inl (.inl ht), atI_nat (j := 0) rfl, rfl, false, (by decide +kernel), iteF ?_⟩
      rw [tnext_eq]
      have w1' := bs.w1
      have w2' := bs.w2
      obtain ⟨z1, wz⟩ := bs.due c d yes min
      have b1 := bs.b1
      have b2 := bs.b2
      have b3 := bs.b3
      have cb : c ≤ 100 := by
        have : 1 * c ≤ s * c := Nat.mul_le_mul_right _ bs.s1
        omega
      have tb1 : s' / Nat.gcd s s' ≤ s' := Nat.div_le_self _ _
      generalize s' / Nat.gcd s s' = t1 at *
      have st1 : s * t1 ≤ 2 ^ 30 * 2 ^ 30 := Nat.mul_le_mul b1 (by omega)
      have rg1 := rg_ys (y := c) (s := t1) (nm_RP (y := y) (s := s) (ps := ps)) (bs.rgN (t := s) (by omega) (by omega) w1').low (Tt := 800) (tot_rg nm_RP (bs.rgN (t := s) (by omega) (by omega) w1')) (bs.rgN (t := s) (by omega) (by omega) w1').few (by decide) (W := 700) (by rw [wr_RP]; exact wz) (N := 2 ^ 110) (by rw [wr_RP, Nat.mul_add, ← Nat.add_assoc]; exact bs.big (by omega)) (by decide)
      refine ⟨_, rfl, _, rfl, t, _, 1, .ref p, rfl, rfl, .inl (.inl ht), atI_nat (j := 1) rfl, p, _, 0, .int (c : Nat), rfl, rfl, .inl (.inl hp), atI_nat (j := 0) rfl, _, rfl, t, _, 2, .ref sp, rfl, rfl, .inl (.inl ht), atI_nat (j := 2) rfl, sp, _, 0, .int (t1 : Nat), rfl, rfl, .inl (.inl hsp), atI_nat (j := 0) rfl, by show 2 ≤ sizeLine; decide, fun fa nfa => ⟨by show 1 ≤ sizeLine; decide, fun la nla => ?_⟩⟩
      have sfa := sameNew (o := .tup [.int (c : Nat), .int (t1 : Nat)]) nfa
      have sla := sameNew (o := .lst [.ref fa]) nla
      have s1a := s1.trans (sfa.trans sla)
      refine ⟨a, la, 1, 1, _, [[c, t1]], rfl, oa.same s1a, by decide, by decide, ⟨_, upd_same, .cons (sla _ _ upd_same) .nil⟩, rfl, lens_ys c t1, fun z hz => by rw [List.mem_singleton.mp hz]; exact bf_two (by omega) (by omega), fun q hq => ?_, ?_, rg1.wl (by decide), fun x1 H6 s6 ox1 => ?_⟩
      · exact rg1.bf _ (List.mem_map.mpr ⟨q, hq, rfl⟩)
      · have := rg1.me
        show meas (repl 1 [[c, t1]] _) ≤ 2000
        omega
      exact q2 x1 c d H6 (s1a.trans s6) yes min ox1
end
end K39K

set_option Elab.async false
set_option linter.all false
set_option maxRecDepth 100000
set_option maxHeartbeats 8000000
set_option exponentiation.threshold 1000
namespace K39K
open K39 PySem PySem.Spec PyProof.Rows L2 CK SX KM NM
section
variable {P : Program} {w : World} {K : PySem.W.Frag} {mg : Str → Option Value} {base : Heap} {C CO : Addr}
def sp_law_common : Sp := fun vs H Q _ => ∃ a b : Nat, vs = [.int a, .int b] ∧ 1 ≤ a ∧ 1 ≤ b ∧ a ≤ 2 ^ 30 ∧ b ≤ 2 ^ 30 ∧ Q (.int (Nat.gcd a b : Nat)) H
theorem c_law_common (T : Txt K mg C CO) : C8.Cal P w K mg base 1 "_law_common" sp_law_common [] := by
  refine calF T.d_law_common sc_law_common (fun vs H Q E h => ?_) (fun f cdv A outer s H vs Q E hr h => ?_)
  · obtain ⟨_, _, rfl, _⟩ := h; rfl
  · obtain ⟨a, b, rfl, a1, b1, a2, b2, q⟩ := h
    refine ⟨_, (pss_cons (ps_while PassesOwn.never (pt_cmpR op_ne (pv 1) pe_int (nomark _))
    (pss_one (ps_par (i := 0) (j := 1) (by rfl) sc_law_common.nd rfl rfl (by decide) rfl rfl (pa_cons (pv 1) (pa_cons (pe_op op_modN (pe_callTy call_int1 (by rfl) T.m_int (by decide +kernel) (pa_cons (pv 0) pa_nil)) (pv 1)) pa_nil)) (by rfl))))
    (pss_one (ps_ret (pv 0)))), ?_⟩
    refine while_by (fun σ H' => H' = H ∧ ∃ x y : Nat, σ = [some (.int x), some (.int y)] ∧ x ≤ 2 ^ 30 ∧ y ≤ 2 ^ 30 ∧ Nat.gcd x y = Nat.gcd a b)
      (fun σ _ => match σ with | [_, some (.int y)] => y.toNat | _ => 0) ⟨rfl, a, b, rfl, a2, b2, rfl⟩ (fun σ H' p => ?_) ?_
    · obtain ⟨rfl, x, y, rfl, hx, hy, hg⟩ := p
      by_cases z : y = 0
      · subst z
        refine ⟨_, rfl, rfl, false, rfl, iteF ?_⟩
        rw [Nat.gcd_zero_right] at hg
        refine ⟨_, rfl, ?_⟩
        rw [hg]
        exact q
      · refine ⟨_, rfl, rfl, true, congrArg V.bl ?_, iteT ?_⟩
        · rw [decide_eq_false fun e => z (by have := V.int.inj e; omega)]
          rfl
        refine ⟨_, rfl, _, rfl, .inl ⟨_, rfl, _, rfl, _, _, rfl, rfl, (by omega : ((y : Nat) : Int) ≠ 0), _, _, rfl, ?_⟩⟩
        have e0 : Int.fmod (x : Int) (y : Int) = ((x % y : Nat) : Int) := by
          rw [Int.fmod_eq_emod_of_nonneg _ (by omega)]
          rfl
        have lt := Nat.mod_lt x (show y > 0 by omega)
        dsimp only
        rw [e0]
        refine ⟨⟨rfl, y, x % y, rfl, hy, by omega, ?_⟩, ?_⟩
        · rw [Nat.gcd_comm y, ← Nat.gcd_rec, Nat.gcd_comm]
          exact hg
        · show ((x % y : Nat) : Int).toNat < ((y : Nat) : Int).toNat
          omega
    · intro σ H' Q1 Q2 hq h
      obtain ⟨a, ha, sc, b, hb, h⟩ := h
      exact ⟨a, ha, sc, b, hb, hq _ _ h⟩
def sp_law_least : Sp := fun vs H Q _ => ∃ (y s y' s' : Nat), vs = [.int y, .int s, .int y', .int s'] ∧ 1 ≤ s' ∧ y ≤ 10 ∧ s ≤ 10 ∧ y' ≤ 10 ∧ s' ≤ 10 ∧
  (∀ H', Same H H' → (∀ c d, c < 60 → y + s * c ≠ y' + s' * d) → Q .non H') ∧
  (∀ p c d H', Same H H' → H' p = some (.tup [.int (c : Nat), .int (d : Nat)]) → c < 60 → y + s * c = y' + s' * d → (∀ c' d', y + s * c' = y' + s' * d' → c ≤ c') → Q (.ref p) H')
theorem c_law_least_pair (T : Txt K mg C CO) : C8.Cal P w K mg base 1 "_law_least_pair" sp_law_least [] := by
  refine calF T.d_law_least_pair sc_law_least_pair (fun vs H Q E h => ?_) (fun f cdv A outer s H vs Q E hr h => ?_)
  · obtain ⟨_, _, _, _, rfl, _⟩ := h; rfl
  · obtain ⟨y, s, y', s', rfl, s1, b1, b2, b3, b4, q1, q2⟩ := h
    refine ⟨_, (pss_cons (ps_for PassesOwn.never rfl (pi_range1 (by rfl) T.m_range (pa_cons pe_int pa_nil)) (pg_name (i := 4) sc_law_least_pair.nd rfl (Or.inl rfl))
    (pss_cons (ps_set (i := 5) sc_law_least_pair.nd rfl (Or.inl rfl) (pe_op op_sub (pe_op op_add (pv 0) (pe_op op_mulW (pv 1) (pv 4))) (pv 2)))
    (pss_one (ps_if (PW.pt (pw_and (pt_cmpR op_ge (pv 5) pe_int (nomark _)) (pw_and1 (pt_cmpR op_eq (pe_op op_modN (pe_callTy call_int1 (by rfl) T.m_int (by decide +kernel) (pa_cons (pv 5) pa_nil)) (pv 3)) pe_int (nomark _)))))
    (pss_one (ps_ret (pe_tup (pa_cons (pv 4) (pa_cons (pe_op op_fdivW (pv 5) (pv 3)) pa_nil)))))
    pss_nil))))
    (pss_one (ps_ret pe_non))), ?_⟩
    refine ⟨60, rfl, by decide, by decide, ?_⟩
    refine for_it walk_range (fun i σ H' => Same H H' ∧ (∀ c d, c < i → y + s * c ≠ y' + s' * d) ∧ ∃ y1 y2, σ = [some (.int y), some (.int s), some (.int y'), some (.int s'), y1, y2]) ⟨Same.refl _, fun _ _ h => absurd h (Nat.not_lt_zero _), none, none, rfl⟩ (fun _ _ _ _ _ => True.intro) (fun i x σ H' H'' hi p yy => ?_) fun σ H' p => ?_
    · obtain ⟨s0, no, y1, y2, rfl⟩ := p
      obtain ⟨rfl, rfl⟩ := yy
      have i3 : i < 60 := hi
      have si : s * i ≤ 10 * 60 := Nat.mul_le_mul b2 (by omega)
      refine ⟨_, rfl, _, rfl, _, rfl, _, _, rfl, rfl, wide_mul (a := 10) (b := 10) (by omega) (by omega) (by decide) (by decide) (by decide), _, _, rfl, rfl, _, rfl, _, _, rfl, rfl, ?_⟩
      have e1 : (y : Int) + (s : Int) * (0 + (i : Int)) - (y' : Int) = ((y + s * i : Nat) : Int) - (y' : Nat) := by
        rw [Int.zero_add]
        push_cast
        rfl
      dsimp only
      rw [e1]
      refine ⟨_, rfl, _, _, rfl, rfl, _, rfl, ?_⟩
      by_cases z : y' ≤ y + s * i
      · rw [decide_eq_true (show (0 : Int) ≤ ((y + s * i : Nat) : Int) - (y' : Nat) by omega)]
        obtain ⟨k, hk⟩ : ∃ k : Nat, y + s * i = y' + k := ⟨y + s * i - y', by omega⟩
        have e2 : ((y + s * i : Nat) : Int) - (y' : Nat) = (k : Nat) := by omega
        rw [e2]
        have e0 : Int.fmod (k : Int) (s' : Int) = ((k % s' : Nat) : Int) := by
          rw [Int.fmod_eq_emod_of_nonneg _ (by omega)]
          rfl
        refine iteT ⟨_, rfl, .inl ⟨_, rfl, _, rfl, _, _, rfl, rfl, (by omega : ((s' : Nat) : Int) ≠ 0), ?_⟩⟩
        dsimp only
        rw [e0]
        by_cases zz : k % s' = 0
        · refine ⟨rfl, true, congrArg V.bl (decide_eq_true (by rw [zz]; rfl)), iteT ?_⟩
          have kd := Nat.div_add_mod k s'
          rw [zz, Nat.add_zero] at kd
          refine ⟨_, rfl, _, rfl, _, rfl, _, _, rfl, rfl, wide_div (b := 20) (by omega) (by omega) (by decide) (by decide), by show 2 ≤ sizeLine; decide, fun p np => ?_⟩
          have sp := sameNew (o := .tup [.int (0 + (i : Int)), .int ((k : Int) / (s' : Int))]) np
          refine q2 p i (k / s') _ (s0.trans sp) ?_ i3 (by rw [hk, kd]) (fun c' d' e => ?_)
          · rw [upd_same, Int.zero_add]
            rfl
          · by_cases ci : c' < i
            · exact absurd e (no c' d' ci)
            · omega
        · refine ⟨rfl, false, congrArg V.bl (decide_eq_false fun e => zz (by have := V.int.inj e; omega)), iteF ?_⟩
          refine ⟨s0, fun c d hc e => ?_, _, _, rfl⟩
          by_cases ci : c < i
          · exact no c d ci e
          · have : c = i := by omega
            subst this
            have : k = s' * d := by omega
            rw [this, Nat.mul_mod_right] at zz
            exact zz rfl
      · rw [decide_eq_false (show ¬ (0 : Int) ≤ ((y + s * i : Nat) : Int) - (y' : Nat) by omega)]
        refine iteF ?_
        refine ⟨s0, fun c d hc => ?_, _, _, rfl⟩
        by_cases ci : c < i
        · exact no c d ci
        · have : c = i := by omega
          subst this
          omega
    · obtain ⟨s0, no, y1, y2, rfl⟩ := p
      exact q1 H' s0 no
end
end K39K

set_option Elab.async false
set_option linter.all false
set_option maxRecDepth 100000
set_option maxHeartbeats 8000000
set_option exponentiation.threshold 1000
namespace K39K
open K39 PySem PySem.Spec PyProof.Rows L2 CK SX KM NM
theorem val_le {f : F} (h : f.length = 1 + 1) {x y : Nat} (hx : x ≤ y) : valF f [x] ≤ valF f [y] := by
  rw [val_scale h, val_scale h]
  exact Nat.add_le_add_left (Nat.mul_le_mul_left _ hx) _
theorem wr_mono1 : ∀ {ps : List Pn}, LenF 1 ps → (NM.wr [0] ps).length ≤ (NM.wr [1] ps).length
  | [], _ => Nat.le_refl _
  | p :: r, h => by
    have ih := wr_mono1 (ps := r) fun q hq => h q (List.mem_cons_of_mem _ hq)
    have e0 : (NM.wrt [0] p).length = p.1.length * NM.valF p.2 [0] := WM.pw_len _ _
    have e1 : (NM.wrt [1] p).length = p.1.length * NM.valF p.2 [1] := WM.pw_len _ _
    have := Nat.mul_le_mul_left p.1.length (val_le (h p List.mem_cons_self) (show 0 ≤ 1 by omega))
    rw [NM.wr, NM.wr, List.length_append, List.length_append]
    omega
theorem wr_grow {p : Pn} (h1 : p.1 ≠ []) (h2 : valF p.2 [0] < valF p.2 [1]) {a b : List Pn} (ha : LenF 1 a) (hb : LenF 1 b) : (NM.wr [0] (a ++ [p] ++ b)).length < (NM.wr [1] (a ++ [p] ++ b)).length := by
  have e0 : (NM.wrt [0] p).length = p.1.length * NM.valF p.2 [0] := WM.pw_len _ _
  have e1 : (NM.wrt [1] p).length = p.1.length * NM.valF p.2 [1] := WM.pw_len _ _
  have l := List.length_pos_iff.mpr h1
  have := Nat.mul_lt_mul_of_pos_left h2 l
  have ma := wr_mono1 ha
  have mb := wr_mono1 hb
  rw [NM.wr_app, NM.wr_app, NM.wr_app, NM.wr_app, wr_one, wr_one, List.length_append, List.length_append, List.length_append, List.length_append]
  omega
theorem Dr.at_ {most : Nat} {ps : List Pn} (h : Dr most ps) (l : ps.length ≤ 3) (x : Nat) : (NM.wr [x] ps).length ≤ 12 * (2 + most * x) := by
  refine Nat.le_trans (wr_le (k := 4 * (2 + most * x)) ps fun p hp => ?_) (Nat.le_trans (Nat.mul_le_mul_right _ l) (by omega))
  obtain ⟨e, a, _, u, b⟩ := h p hp
  replace a := Nat.le_of_lt_succ a
  have el : (wrt [x] p).length = p.1.length * valF p.2 [x] := WM.pw_len _ _
  rw [el]
  refine Nat.mul_le_mul a ?_
  rw [val_scale e]
  obtain ⟨c, y, exy⟩ : ∃ x y, p.2 = [x, y] := by
    match p.2, e with
    | [x, y], _ => exact ⟨x, y, rfl⟩
  rw [exy] at u b ⊢
  have uy := u y (by simp)
  have := Nat.mul_le_mul_right x uy
  show c + y * x ≤ _
  have b : c ≤ 2 := b
  omega
/-- a list of counts as data -/
def dN (pt : List Nat) : PyData := .list (pt.map fun n : Nat => .int (n : Nat))
theorem dp_LP {K : PySem.W.Frag} {H : Hp} {L : Addr} {pt : List Nat} (h : LP H L pt) : Dp K H (.ref L) (dN pt) := .lst (.inl (.inl h)) (dpAll_nats pt)
theorem shaped_dN (pt : List Nat) : SeqAt.shaped (dN pt) = true := by
  unfold SeqAt.shaped dN
  rw [PyData.canLay0, lay_nats, PyData.depth, deep_nats]
  rfl
theorem shaped_nil : SeqAt.shaped (.list []) = true := by decide +kernel
theorem eqv_nil (xs : List Nat) : PyData.eqv (dN xs) (.list []) = decide (xs = []) := by
  have := eqvAll_nats xs []
  unfold dN
  rw [PyData.eqv]
  exact this
theorem Pcs.takeK {H : Hp} {vs : List V} {ps : List Pn} (h : K39.Pcs H vs ps) (k : Nat) : K39.Pcs H (vs.take k) (ps.take k) := by
  induction h generalizing k with
  | nil => simp; exact .nil
  | cons e _ ih =>
    cases k with
    | zero => exact .nil
    | succ k => exact .cons e (ih k)
theorem Pcs.dropK {H : Hp} {vs : List V} {ps : List Pn} (h : K39.Pcs H vs ps) (k : Nat) : K39.Pcs H (vs.drop k) (ps.drop k) := by
  induction h generalizing k with
  | nil => simp; exact .nil
  | cons e h ih =>
    cases k with
    | zero => exact .cons e h
    | succ k => exact ih k
/-- what is drawn -/
structure TB (most : Nat) (ps : List Pn) : Prop where
  nm : Nm 1 ps
  low : LowP ps
  tot : tot ps ≤ 36
  few : opn ps ≤ 3
  grow : (NM.wr [0] ps).length < (NM.wr [1] ps).length
  ones : (NM.wr [1] ps).length ≤ 2 ^ 36
  at_ : ∀ x, (NM.wr [x] ps).length ≤ 12 * (2 + most * x)
section
variable {P : Program} {w : World} {K : PySem.W.Frag} {mg : Str → Option Value} {base : Heap} {C CO : Addr}
def sp_law_text (CO : Addr) : Sp := fun vs H Q _ => ∃ (g : Addr) (cs : List Nat) (most n : Nat), vs = [.ref g, .str (S cs), .int most] ∧ cs.length = 3 ∧ Low cs ∧ 2 ≤ most ∧ most ≤ 2 ^ 30 ∧ Gn (n + 300) H g ∧
  ∀ x ps H', SameX g H H' → Gn n H' g → OT CO H' x 1 ps → TB most ps → Q (.ref x) H'
theorem c_law_text (T : Txt K mg C CO) : C8.Cal P w K mg base 11 "_law_text" (sp_law_text CO) [] := by
  refine calF T.d_law_text sc_law_text (fun vs H Q E h => ?_) (fun f0 cdv A outer s H vs Q E hr h => ?_)
  · obtain ⟨_, _, _, _, rfl, _⟩ := h; rfl
  · obtain ⟨g, cs, most, n, rfl, lcs, lowc, hm2, hm30, G, q⟩ := h
    have csne : cs ≠ [] := fun z => by rw [z] at lcs; cases lcs
    refine ⟨_, (pss_cons (ps_set (i := 3) sc_law_text.nd rfl (Or.inr rfl) (C8.pe_c (c_law_word T) hr (by decide) (by rfl) (pa_cons (pv 0) (pa_cons (pv 1) (pa_cons pe_int (pa_cons pe_int pa_nil))))))
    (pss_cons (ps_setLc (i := 4) (own := [("_law_turn", 5)]) rfl sc_law_text.nd rfl rfl (sw_true rfl rfl rfl (by decide +kernel)) (pi_range1 (by rfl) T.m_range (pa_cons (C8.pe_c (c_law_random T) hr (by decide) (by rfl) (pa_cons (pv 0) (pa_cons pe_int pa_nil))) pa_nil)) (blkOk_by (N := ["_law_generator_here", "_law_letters_here", "_law_most", "_law_core", "_law_pieces", "_law_turn", "_law_at"]) (sc := C8.fnScope (topS 102)) (own := [("_law_turn", 5)]) (by decide +kernel)) (fun _ _ _ _ _ => (pg_name (i := 5) sc_law_text.nd rfl (Or.inl rfl))) (fun _ _ _ _ _ => pts_nil) (fun _ _ _ _ _ => (C8.pe_c (c_law_piece T) hr (by decide) (by rfl) (pa_cons (pv 0) (pa_cons pe_int (pa_cons (pv 1) (pa_cons (pv 3) (pa_cons (pv 2) pa_nil))))))))
    (pss_cons (ps_set (i := 6) sc_law_text.nd rfl (Or.inl rfl) (C8.pe_c (c_law_random T) hr (by decide) (by rfl) (pa_cons (pv 0) (pa_cons (pe_op op_add (pe_callB call_len_seq (by rfl) T.m_len (by decide +kernel) (pa_cons (pv 4) pa_nil)) pe_int) pa_nil))))
    (pss_one (ps_ret (C8.pe_mk (n_OpenText T) hr (by decide) (by rfl) (pa_cons pe_int (pa_cons (pe_op op_cat (pe_op op_cat (pe_slice sl_list (pv 4) po_none (po_some (pv 6))) (pe_lst (pa_cons (pe_tup (pa_cons (pv 3) (pa_cons (pe_tup (pa_cons pe_int (pa_cons (pe_op op_add pe_int (C8.pe_c (c_law_random T) hr (by decide) (by rfl) (pa_cons (pv 0) (pa_cons (pv 2) pa_nil)))) pa_nil))) pa_nil))) pa_nil))) (pe_slice sl_list (pv 4) (po_some (pv 6)) po_none)) pa_nil)))))))), ?_⟩
    refine ⟨_, rfl, _, rfl, g, cs, n + 280, 1, 2, rfl, csne, by omega, lowc, G.le (by omega), by decide, by decide, fun core H1 s1 G1 b1 b2 lowb => ?_⟩
    have bne : core ≠ [] := fun z => by rw [z] at b1; simp at b1
    refine ⟨_, rfl, g, 3, n + 270, rfl, G1.le (by omega), by decide, by decide, fun r H2 s2 G2 r0 r1 => ?_⟩
    obtain ⟨cnt, rfl⟩ : ∃ k : Nat, r = k := ⟨r.toNat, by omega⟩
    have s02 := s1.trans s2
    refine ⟨(cnt : Int), rfl, by omega, by omega, fun D hD => ?_⟩
    have Dg := G2.ne hD
    refine lc_range (fun i H3 => i ≤ cnt ∧ Gn (n + 10 + 50 * (4 - i)) H3 g ∧ SameX g H2 H3 ∧ ∃ ps, K39.PL H3 D ps ∧ ps.length = i ∧ Dr most ps) ⟨Nat.zero_le _, (G2.upd Dg).le (by omega), sameX_new hD, [], ⟨[], upd_same, .nil⟩, rfl, fun p hp => by cases hp⟩ (fun i H3 hi p => ?_) fun H3 p => ?_
    · obtain ⟨_, G3, s3, ps, pl, lps, dr⟩ := p
      have hic : i < cnt := by
        have : i < ((cnt : Int)).toNat := hi
        omega
      have eG : n + 10 + 50 * (4 - i) = n + 10 + 50 * (4 - (i + 1)) + 50 := by omega
      rw [eG] at G3
      refine ⟨rfl, yes_if ⟨_, rfl, _, rfl, _, rfl, _, rfl, g, cs, core, 1, n + 10 + 50 * (4 - (i + 1)), most, rfl, hm2, Nat.lt_of_le_of_lt hm30 (by decide), lcs, lowc, bne, b2, lowb, by decide, G3, fun a p H4 s4 G4 pc lp wp low up h0 => ?_⟩⟩
      obtain ⟨us, hus, pus⟩ := pl
      have hus4 := s4 _ _ Dg hus
      have pus4 := pus.mono fun a xs e => s4.tup G3 e
      have lu := pus.len
      refine ⟨us, hus4, by rw [sizeLine_eq]; omega, hic, G4.upd Dg, (s3.trans s4).upd2 hD, ps ++ [p], ⟨_, upd_same, (pus4.upd hus4).app (.one (pc.mono (tup_upd hus4)))⟩, by rw [List.length_append, lps]; rfl, fun x hx => ?_⟩
      rcases List.mem_append.mp hx with z | z
      · exact dr x z
      · rw [List.mem_singleton.mp z]
        exact ⟨lp, Nat.lt_succ_of_le wp, low, up, h0⟩
    obtain ⟨_, G3, s3, ps, ⟨vs, hvs, pvs⟩, lps, dr⟩ := p
    have ec : ((cnt : Int)).toNat = cnt := Int.toNat_natCast cnt
    rw [ec] at lps
    have lv := pvs.len
    have s03 := s02.trans s3
    have G3 := G3.le (m := n + 10) (by omega)
    refine ⟨_, rfl, _, rfl, D, _, rfl, .inl (.inl (.inl hvs)), _, _, rfl, rfl, g, _, n + 9, rfl, G3, by omega, by omega, fun r H4 s4 G4 r0' r1' => ?_⟩
    obtain ⟨at_, rfl⟩ : ∃ k : Nat, r = k := ⟨r.toNat, by omega⟩
    have hv4 := s4 _ _ Dg hvs
    have pv4 := pvs.mono fun a xs e => s4.tup G3 e
    have s04 := s03.trans s4
    refine ⟨_, rfl, _, rfl, at_, rfl, D, vs, rfl, .inl (.inl hv4), fun p1 np1 => ?_⟩
    have sp1 := sameNew (o := .lst (cutV vs none (some (at_ : Int)))) np1
    have p1g := G4.ne np1
    refine ⟨_, rfl, _, rfl, _, rfl, g, most, n + 8, rfl, G4.same sp1, by omega, by omega, fun r H5 s5 G5 r0'' r1'' => ⟨_, _, rfl, rfl, by show 2 ≤ sizeLine; decide, fun tf ntf => ⟨by show 2 ≤ sizeLine; decide, fun ta nta => ⟨by show 1 ≤ sizeLine; decide, fun Le nLe => ?_⟩⟩⟩⟩
    obtain ⟨k, ek⟩ : ∃ k : Nat, 1 + r = k := ⟨(1 + r).toNat, by omega⟩
    dsimp only at nta nLe ⊢
    rw [ek] at nta nLe ⊢
    have stf := sameNew (o := .tup [.int 0, .int (k : Nat)]) ntf
    have sta := sameNew (o := .tup [.str (S core), .ref tf]) nta
    have sLe := sameNew (o := .lst [.ref ta]) nLe
    have s3e := (stf.trans sta).trans sLe
    have s4e : SameX g H4 _ := ((SameX.of sp1).trans s5).trans (.of s3e)
    have hp1 := s3e _ _ (s5 _ _ p1g upd_same)
    have G4' := G4.same sp1
    refine ⟨p1, Le, _, _, rfl, rfl, hp1, upd_same, by rw [cutV_take, List.length_take, sizeLine_eq]; simp; omega, fun c1 nc1 => ?_⟩
    have sc1 := sameNew (o := .lst (cutV vs none (some (at_ : Int)) ++ [.ref ta])) nc1
    refine ⟨_, rfl, _, rfl, at_, rfl, D, vs, rfl, .inl (.inl (sc1 _ _ (s4e _ _ Dg hv4))), fun p2 np2 => ?_⟩
    have sp2 := sameNew (o := .lst (cutV vs (some (at_ : Int)) none)) np2
    refine ⟨c1, p2, _, _, rfl, rfl, sp2 _ _ upd_same, upd_same, by rw [cutV_take, cutV_drop, List.length_append, List.length_take, List.length_drop, sizeLine_eq]; simp; omega, fun c2 nc2 => ?_⟩
    have sc2 := sameNew (o := .lst (cutV vs none (some (at_ : Int)) ++ [.ref ta] ++ cutV vs (some (at_ : Int)) none)) nc2
    have s9 := (sc1.trans sp2).trans sc2
    have sAll := s3e.trans s9
    have pv5 := (pv4.same sp1).mono fun a xs e => s5.tup G4' e
    have hY : K39.Pcs _ [.ref ta] [(core, [0, k])] := .one ⟨tf, (sLe.trans s9) _ _ upd_same, (sta.trans (sLe.trans s9)) _ _ upd_same⟩
    have q1 : K39.Pcs H5 (cutV vs none (some (at_ : Int))) (ps.take at_) := by rw [cutV_take]; exact Pcs.takeK pv5 at_
    have q2 : K39.Pcs H5 (cutV vs (some (at_ : Int)) none) (ps.drop at_) := by rw [cutV_drop]; exact Pcs.dropK pv5 at_
    have pl : K39.PL _ c2 (ps.take at_ ++ [(core, [0, k])] ++ ps.drop at_) := ⟨_, upd_same, ((q1.same sAll).app hY).app (q2.same sAll)⟩
    have k1 : 1 ≤ k := by omega
    have km : k ≤ most := by omega
    have lat : (ps.take at_ ++ [(core, [0, k])] ++ ps.drop at_).length ≤ 3 := by
      rw [List.length_append, List.length_append, List.length_take, List.length_drop, List.length_singleton]
      omega
    have drR : Dr most (ps.take at_ ++ [(core, [0, k])] ++ ps.drop at_) := fun z hz => by
      rcases List.mem_append.mp hz with hz | hz
      · rcases List.mem_append.mp hz with hz | hz
        · exact dr z (List.mem_of_mem_take hz)
        · rw [List.mem_singleton.mp hz]
          refine ⟨rfl, Nat.lt_of_le_of_lt b2 (by decide), lowb, fun n hn => ?_, by show 0 ≤ 2; decide⟩
          rcases List.mem_cons.mp hn with e | e
          · omega
          · have := List.mem_singleton.mp e
            omega
      · exact dr z (List.mem_of_mem_drop hz)
    have gr : (NM.wr [0] (ps.take at_ ++ [(core, [0, k])] ++ ps.drop at_)).length < (NM.wr [1] (ps.take at_ ++ [(core, [0, k])] ++ ps.drop at_)).length :=
      wr_grow (p := (core, [0, k])) bne (by show 0 + (k * 0 + 0) < 0 + (k * 1 + 0); omega) (fun z hz => (dr z (List.mem_of_mem_take hz)).1) (fun z hz => (dr z (List.mem_of_mem_drop hz)).1)
    generalize ps.take at_ ++ [(core, [0, k])] ++ ps.drop at_ = rs at *
    have rg := drR.rg lat hm30
    refine fun z dz nz ndz nez => mk_text nz ndz nez (rg.gl pl) (by decide) (by have := rg.me; omega) (rg.wl (by decide)) fun a1 H9 sN na1 ot1 => ⟨rfl, ?_⟩
    have rn := rg.norm (by decide) (by decide)
    have nm := nm_normL rg.len
    exact q z _ H9 (s04.trans (s4e.trans (.of (s9.trans sN)))) (((G5.same sAll).same sN).le (by omega)) ⟨a1, ot1⟩ ⟨nm, rn.low, tot_rg nm rn, rn.few, by rw [wr_normL rg.len, wr_normL rg.len]; exact gr, rn.ones, fun x => by rw [wr_normL rg.len]; exact drR.at_ lat x⟩
end
end K39K

set_option Elab.async false
set_option linter.all false
set_option maxRecDepth 100000
set_option maxHeartbeats 8000000
set_option exponentiation.threshold 1000
namespace K39K
open K39 PySem PySem.Spec PyProof.Rows L2 CK SX KM NM
theorem ot_sameX {CO g x : Addr} {H H' : Hp} {m n : Nat} {ps : List NM.Pn} (h : OT CO H x m ps) (G : Gn n H g) (s : SameX g H H') : OT CO H' x m ps := by
  obtain ⟨a, b, c, hg, _⟩ := id G
  obtain ⟨l, ⟨dx, hx⟩, gl⟩ := h
  obtain ⟨vs, hl, pl⟩ := id gl.at_
  have lg : l ≠ g := fun z => by
    rw [z, hg] at hl
    cases hl
    cases pl
  exact ⟨l, ⟨dx, s _ _ (fun z => by rw [z, hg] at hx; cases hx) hx⟩, ⟨⟨vs, s _ _ lg hl, pl.mono fun a xs e => s.tup G e⟩, gl.len, gl.ws, gl.low, gl.bf, gl.few⟩⟩
theorem bf_gs {z t : Nat} (hz : z ≤ 2 ^ 120) (ht : t ≤ 2 ^ 120) : ∀ g ∈ [[z, t]], Bf g := fun y hy => by rw [List.mem_singleton.mp hy]; exact bf_two hz ht
theorem Rg.bfs {c N k z t : Nat} {ps : List Pn} (rg : Rg c N k (repl 1 [[z, t]] ps)) : ∀ p ∈ ps, Bf (insF 1 p.2 [[z, t]]) := fun q hq => rg.bf _ (List.mem_map.mpr ⟨q, hq, rfl⟩)
theorem shaped_pairs : SeqAt.shaped (.tuple [.str (Str.ofString "pairs"), .list []]) = true := by decide +kernel
theorem shaped_line (a b c d : Int) : SeqAt.shaped (.tuple [.str (Str.ofString "line"), .tuple [.int a, .int b], .tuple [.int c, .int d]]) = true := by
  have e : PyData.strOk (Str.ofString "line") = true := by decide +kernel
  unfold SeqAt.shaped
  simp [PyData.canLay0, PyData.canLayAll0, PyData.depth, PyData.depthAll, e]
section
variable {y s y' s' : Nat} {ps : List Pn}
/-- the line, and the texts at its counts -/
structure Ln (y s y' s' : Nat) (ps : List Pn) (c d t1 t2 : Nat) : Prop where
  eq : y + s * c = y' + s' * d
  st : s * t1 = s' * t2
  e1 : t1 = s' / Nat.gcd s s'
  e2 : t2 = s / Nat.gcd s s'
  c100 : c ≤ 100
  d100 : d ≤ 100
  t1b : t1 ≤ 2 ^ 30
  t2b : t2 ≤ 2 ^ 30
  stb : s * t1 ≤ 2 ^ 60
  z100 : y + s * c ≤ 100
  wz : (NM.wr [y + s * c] ps).length ≤ 700
theorem Bs.ln (bs : Bs y s y' s' ps) {c d : Nat} (yes : y + s * c = y' + s' * d) (min : ∀ c' d', y + s * c' = y' + s' * d' → c ≤ c') : Ln y s y' s' ps c d (s' / Nat.gcd s s') (s / Nat.gcd s s') := by
  obtain ⟨z1, wz⟩ := bs.due c d yes min
  have b1 := bs.b1
  have b2 := bs.b2
  have g1 : 1 ≤ Nat.gcd s s' := Nat.gcd_pos_of_pos_left _ bs.s1
  have tb1 : s' / Nat.gcd s s' ≤ s' := Nat.div_le_self _ _
  have tb2 : s / Nat.gcd s s' ≤ s := Nat.div_le_self _ _
  have tst : s * (s' / Nat.gcd s s') = s' * (s / Nat.gcd s s') := by
    obtain ⟨u, hu⟩ := Nat.gcd_dvd_left s s'
    obtain ⟨v, hv⟩ := Nat.gcd_dvd_right s s'
    generalize Nat.gcd s s' = g0 at *
    have e1 : s / g0 = u := by rw [hu]; exact Nat.mul_div_cancel_left _ g1
    have e2 : s' / g0 = v := by rw [hv]; exact Nat.mul_div_cancel_left _ g1
    rw [e1, e2, hu, hv, Nat.mul_right_comm]
  have cb : c ≤ 100 := by
    have : 1 * c ≤ s * c := Nat.mul_le_mul_right _ bs.s1
    omega
  have db : d ≤ 100 := by
    have : 1 * d ≤ s' * d := Nat.mul_le_mul_right _ bs.s2
    omega
  have st1 : s * (s' / Nat.gcd s s') ≤ 2 ^ 30 * 2 ^ 30 := Nat.mul_le_mul b1 (by omega)
  exact ⟨yes, tst, rfl, rfl, cb, db, by omega, by omega, by omega, z1, wz⟩
variable {c d t1 t2 : Nat}
theorem Ln.same (l : Ln y s y' s' ps c d t1 t2) : RP c t1 (RP y s ps) = RP d t2 (RP y' s' ps) := by rw [RP_RP, RP_RP, l.eq, l.st]
theorem Ln.rg1 (l : Ln y s y' s' ps c d t1 t2) (bs : Bs y s y' s' ps) : Rg 1500 (2 ^ 110) 3 (repl 1 [[c, t1]] (RP y s ps)) := by
  have b1 := bs.b1
  have b3 := bs.b3
  have w1 := bs.w1
  have r := bs.rgN (t := s) (z := y) (by omega) (by omega) w1
  have z := l.z100
  have st := l.stb
  exact rg_ys nm_RP r.low (tot_rg nm_RP r) r.few (by decide) (W := 700) (by rw [wr_RP]; exact l.wz) (by rw [wr_RP, Nat.mul_add, ← Nat.add_assoc]; exact bs.big (by omega)) (by decide)
theorem Ln.rg2 (l : Ln y s y' s' ps c d t1 t2) (bs : Bs y s y' s' ps) : Rg 1500 (2 ^ 110) 3 (repl 1 [[d, t2]] (RP y' s' ps)) := by
  have b1 := bs.b2
  have b3 := bs.b4
  have w1 := bs.w2
  have r := bs.rgN (t := s') (z := y') (by omega) (by omega) w1
  have z := l.z100
  have st := l.stb
  exact rg_ys nm_RP r.low (tot_rg nm_RP r) r.few (by decide) (W := 700) (by rw [wr_RP, ← l.eq]; exact l.wz) (by rw [wr_RP, Nat.mul_add, ← Nat.add_assoc, ← l.eq, ← l.st]; exact bs.big (by omega)) (by decide)
theorem Ln.tn (l : Ln y s y' s' ps c d t1 t2) (bs : Bs y s y' s' ps) : Tn (RP c t1 (RP y s ps)) := by
  rw [RP_RP]
  have z := l.z100
  have st := l.stb
  exact bs.tn (by omega) st l.wz
end
section
variable {P : Program} {w : World} {K : PySem.W.Frag} {mg : Str → Option Value} {base : Heap} {C CO : Addr}
def sp_told (CO : Addr) : Sp := fun vs H Q _ => ∃ (g x L p1 p2 : Addr) (due : V) (ps : List Pn) (y s y' s' n : Nat), vs = [.ref g, .ref x, .ref L, due] ∧ OT CO H x 1 ps ∧ H L = some (.lst [.ref p1, .ref p2]) ∧ H p1 = some (.tup [.int (y : Nat), .int (s : Nat)]) ∧ H p2 = some (.tup [.int (y' : Nat), .int (s' : Nat)]) ∧ Bs y s y' s' ps ∧
  ((due = .non ∧ ∀ c d, y + s * c ≠ y' + s' * d) ∨ ∃ (pd : Addr) (c d : Nat), due = .ref pd ∧ H pd = some (.tup [.int (c : Nat), .int (d : Nat)]) ∧ y + s * c = y' + s' * d ∧ ∀ c' d', y + s * c' = y' + s' * d' → c ≤ c') ∧
  Gn (n + 10) H g ∧ ∀ H', SameX g H H' → Gn n H' g → Q (.bl true) H'
theorem c_law_told_right (T : Txt K mg C CO) : C8.Cal P w K mg base 13 "_law_told_right" (sp_told CO) [] := by
  refine calF T.d_law_told_right sc_law_told_right (fun vs H Q E h => ?_) (fun f0 cdv A outer s0 H vs Q E hr h => ?_)
  · obtain ⟨_, _, _, _, _, _, _, _, _, _, _, _, rfl, _⟩ := h; rfl
  · obtain ⟨g, x, L, p1, p2, due, ps, y, s, y', s', n, rfl, ox, hL, hp1, hp2, bs, hd, G, q⟩ := h
    refine ⟨_, (pss_cons (ps_par (i := 4) (j := 5) (by rfl) sc_law_told_right.nd rfl rfl (by decide) rfl rfl (pa_cons (C8.pe_c (c_replaced T) hr (by decide) (by rfl) (pa_cons (pv 1) (pa_cons pe_int (pa_cons (pe_lst (pa_cons (pe_ix ix_list (pv 2) pe_int (fun _ _ => rfl)) pa_nil)) pa_nil)))) (pa_cons (C8.pe_c (c_replaced T) hr (by decide) (by rfl) (pa_cons (pv 1) (pa_cons pe_int (pa_cons (pe_lst (pa_cons (pe_ix ix_list (pv 2) pe_int (fun _ _ => rfl)) pa_nil)) pa_nil)))) pa_nil)) (by rfl))
    (pss_cons (ps_set (i := 6) sc_law_told_right.nd rfl (Or.inl rfl) (C8.pe_c (c_shared T) hr (by decide) (by rfl) (pa_cons (pv 4) (pa_cons (pv 5) pa_nil))))
    (pss_cons (ps_if (pt_cmpR op_isN (pv 3) pe_non (nomark _))
    (pss_one (ps_ret (pe_and (pe_cmpR (op_eqD hr.units) (pv 6) (pe_tup (pa_cons pe_str (pa_cons (pe_lst pa_nil) pa_nil))) (nomark _)) (pe_one (pe_cmpR op_isN (C8.pe_c (c_shared_text T) hr (by decide) (by rfl) (pa_cons (pv 4) (pa_cons (pv 5) pa_nil))) pe_non (nomark _))))))
    pss_nil)
    (pss_cons (ps_set (i := 7) sc_law_told_right.nd rfl (Or.inl rfl) (C8.pe_c (c_law_common T) hr (by decide) (by rfl) (pa_cons (pe_ix ix_tup (pe_ix ix_list (pv 2) pe_int (fun _ _ => rfl)) pe_int (fun _ _ => rfl)) (pa_cons (pe_ix ix_tup (pe_ix ix_list (pv 2) pe_int (fun _ _ => rfl)) pe_int (fun _ _ => rfl)) pa_nil))))
    (pss_cons (ps_set (i := 8) sc_law_told_right.nd rfl (Or.inl rfl) (pe_tup (pa_cons (pe_op op_fdivW (pe_ix ix_tup (pe_ix ix_list (pv 2) pe_int (fun _ _ => rfl)) pe_int (fun _ _ => rfl)) (pv 7)) (pa_cons (pe_op op_fdivW (pe_ix ix_tup (pe_ix ix_list (pv 2) pe_int (fun _ _ => rfl)) pe_int (fun _ _ => rfl)) (pv 7)) pa_nil))))
    (pss_cons (ps_if (pt_cmpR (op_neSame hr.units) (pv 6) (pe_tup (pa_cons pe_str (pa_cons (pv 3) (pa_cons (pv 8) pa_nil)))) (nomark _))
    (pss_one (ps_ret pe_bl))
    pss_nil)
    (pss_cons (ps_set (i := 9) sc_law_told_right.nd rfl (Or.inl rfl) (C8.pe_c (c_shared_text T) hr (by decide) (by rfl) (pa_cons (pv 4) (pa_cons (pv 5) pa_nil))))
    (pss_cons (ps_set (i := 10) sc_law_told_right.nd rfl (Or.inl rfl) (pe_tup (pa_cons (pe_op op_add (pe_ix ix_tup (pe_ix ix_list (pv 2) pe_int (fun _ _ => rfl)) pe_int (fun _ _ => rfl)) (pe_op op_mulW (pe_ix ix_tup (pe_ix ix_list (pv 2) pe_int (fun _ _ => rfl)) pe_int (fun _ _ => rfl)) (pe_ix ix_tup (pv 3) pe_int (fun _ _ => rfl)))) (pa_cons (pe_op op_mulW (pe_ix ix_tup (pe_ix ix_list (pv 2) pe_int (fun _ _ => rfl)) pe_int (fun _ _ => rfl)) (pe_ix ix_tup (pv 8) pe_int (fun _ _ => rfl))) pa_nil))))
    (pss_cons (ps_if (pt_cmpR (op_neO (m_OpenText___eq__ T) T.nn_OpenText hr (by decide)) (pv 9) (C8.pe_c (c_replaced T) hr (by decide) (by rfl) (pa_cons (pv 1) (pa_cons pe_int (pa_cons (pe_lst (pa_cons (pv 10) pa_nil)) pa_nil)))) (nomark _))
    (pss_one (ps_ret pe_bl))
    pss_nil)
    (pss_cons (ps_for PassesOwn.never rfl (pi_list (pe_lst (pa_cons pe_int (pa_cons pe_int (pa_cons (C8.pe_c (c_law_random T) hr (by decide) (by rfl) (pa_cons (pv 0) (pa_cons (pe_op op_powB pe_int pe_int) pa_nil))) pa_nil))))) (pg_name (i := 11) sc_law_told_right.nd rfl (Or.inl rfl))
    (pss_cons (ps_par (i := 12) (j := 13) (by rfl) sc_law_told_right.nd rfl rfl (by decide) rfl rfl (pa_cons (C8.pe_c (c_kept T) hr (by decide) (by rfl) (pa_cons (pv 4) (pa_cons (pe_lst (pa_cons (pe_op op_add (pe_ix ix_tup (pv 3) pe_int (fun _ _ => rfl)) (pe_op op_mulW (pe_ix ix_tup (pv 8) pe_int (fun _ _ => rfl)) (pv 11))) pa_nil)) pa_nil))) (pa_cons (C8.pe_c (c_kept T) hr (by decide) (by rfl) (pa_cons (pv 5) (pa_cons (pe_lst (pa_cons (pe_op op_add (pe_ix ix_tup (pv 3) pe_int (fun _ _ => rfl)) (pe_op op_mulW (pe_ix ix_tup (pv 8) pe_int (fun _ _ => rfl)) (pv 11))) pa_nil)) pa_nil))) pa_nil)) (by rfl))
    (pss_one (ps_if (PW.pt (pw_or (pt_not (pt_val (C8.pe_c (c_same_kept T) hr (by decide) (by rfl) (pa_cons (C8.pe_c (c_kept T) hr (by decide) (by rfl) (pa_cons (pv 9) (pa_cons (pe_lst (pa_cons (pv 11) pa_nil)) pa_nil))) (pa_cons (pv 12) pa_nil))))) (pw_or1 (pt_not (pt_val (C8.pe_c (c_same_kept T) hr (by decide) (by rfl) (pa_cons (pv 12) (pa_cons (pv 13) pa_nil))))))))
    (pss_one (ps_ret pe_bl))
    pss_nil))))
    (pss_one (ps_ret (pe_cmpR op_isN (C8.pe_c (c_agreeing T) hr (by decide) (by rfl) (pa_cons (C8.pe_c (c_replaced T) hr (by decide) (by rfl) (pa_cons (pv 4) (pa_cons pe_int (pa_cons (pe_lst (pa_cons (pe_tup (pa_cons (pe_ix ix_tup (pv 3) pe_int (fun _ _ => rfl)) (pa_cons (pe_ix ix_tup (pv 8) pe_int (fun _ _ => rfl)) pa_nil))) pa_nil)) pa_nil)))) (pa_cons (C8.pe_c (c_replaced T) hr (by decide) (by rfl) (pa_cons (pv 5) (pa_cons pe_int (pa_cons (pe_lst (pa_cons (pe_tup (pa_cons (pe_ix ix_tup (pv 3) pe_int (fun _ _ => rfl)) (pa_cons (pe_ix ix_tup (pv 8) pe_int (fun _ _ => rfl)) pa_nil))) pa_nil)) pa_nil)))) pa_nil))) pe_non (nomark _)))))))))))))), ?_⟩
    have b1 := bs.b1
    have b2 := bs.b2
    have b3 := bs.b3
    have b4 := bs.b4
    have r1 := bs.rg (z := y) (t := s) (by omega) (by omega) bs.w1
    have r2 := bs.rg (z := y') (t := s') (by omega) (by omega) bs.w2
    refine ⟨_, rfl, _, rfl, L, _, 0, .ref p1, rfl, rfl, .inl (.inl hL), atI_nat (j := 0) rfl, by show 1 ≤ sizeLine; decide, fun la nla => ?_⟩
    have sla := sameNew (o := .lst [.ref p1]) nla
    refine ⟨x, la, 1, 1, _, [[y, s]], rfl, ox.same sla, by decide, by decide, ⟨_, upd_same, .cons (sla _ _ hp1) .nil⟩, rfl, lens_ys _ _, bf_gs (by omega) (by omega), r1.bfs, Nat.le_trans r1.me (by decide), r1.wl (by decide), fun x1 H1 s1 ox1 => ?_⟩
    have s1 := sla.trans s1
    refine ⟨_, rfl, _, rfl, L, _, 1, .ref p2, rfl, rfl, .inl (.inl (s1 _ _ hL)), atI_nat (j := 1) rfl, by show 1 ≤ sizeLine; decide, fun lb nlb => ?_⟩
    have slb := sameNew (o := .lst [.ref p2]) nlb
    refine ⟨x, lb, 1, 1, _, [[y', s']], rfl, ox.same (s1.trans slb), by decide, by decide, ⟨_, upd_same, .cons ((s1.trans slb) _ _ hp2) .nil⟩, rfl, lens_ys _ _, bf_gs (by omega) (by omega), r2.bfs, Nat.le_trans r2.me (by decide), r2.wl (by decide), fun x2 H2 s2 ox2 => ⟨_, _, rfl, ?_⟩⟩
    have s12 := slb.trans s2
    have ox1 := ox1.same s12
    have s02 := s1.trans s12
    clear s1 sla nla slb nlb s2 s12
    have ox1 : OT CO H2 x1 1 (RP y s ps) := ox1
    have ox2 : OT CO H2 x2 1 (RP y' s' ps) := ox2
    have ox := ox.same s02
    have hL := s02 _ _ hL
    have hp1 := s02 _ _ hp1
    have hp2 := s02 _ _ hp2
    have G := G.same s02
    have hd : (due = .non ∧ ∀ c d, y + s * c ≠ y' + s' * d) ∨ ∃ (pd : Addr) (c d : Nat), due = .ref pd ∧ H2 pd = some (.tup [.int (c : Nat), .int (d : Nat)]) ∧ y + s * c = y' + s' * d ∧ ∀ c' d', y + s * c' = y' + s' * d' → c ≤ c' := hd.imp id fun ⟨pd, c, d, e, h, z⟩ => ⟨pd, c, d, e, s02 _ _ h, z⟩
    have q := fun H' (s : SameX g H2 H') => q H' ((SameX.of s02).trans s)
    clear r1 r2 s02
    rcases hd with ⟨rfl, no⟩ | ⟨pd, c, d, rfl, hpd, yes, min⟩
    · refine ⟨_, rfl, _, rfl, x1, x2, ps, y, s, y', s', rfl, ox1, ox2, bs, fun t L' H3 s3 _ ht hL' => ?_, fun _ _ _ c d _ _ z _ _ _ _ => absurd z (no c d)⟩
      refine ⟨_, rfl, rfl, true, rfl, iteT ⟨_, rfl, by show 0 ≤ sizeLine; omega, fun E0 nE0 => ⟨by show 2 ≤ sizeLine; decide, fun tt ntt => ?_⟩⟩⟩
      have sE := sameNew (o := .lst []) nE0
      have st := sameNew (o := .tup [.str (Str.ofString "pairs"), .ref E0]) ntt
      have s3e := sE.trans st
      refine ⟨.tuple [.str (Str.ofString "pairs"), .list []], .tuple [.str (Str.ofString "pairs"), .list []], .tup (.inl (.inl (s3e _ _ ht))) (.cons (.str _) (.cons (.lst (.inl (.inl (s3e _ _ hL'))) .nil) .nil)), .tup (.inl (.inl upd_same)) (.cons (.str _) (.cons (.lst (.inl (.inl (st _ _ upd_same))) .nil) .nil)), shaped_pairs, shaped_pairs, ?_⟩
      rw [show PyData.eqv (.tuple [.str (Str.ofString "pairs"), .list []]) (.tuple [.str (Str.ofString "pairs"), .list []]) = true from by decide +kernel]
      have s3x := s3.trans s3e
      refine ⟨true, rfl, iteT ⟨_, rfl, _, rfl, x1, x2, ps, y, s, y', s', rfl, ox1.same s3x, ox2.same s3x, bs, fun H4 s4 _ => ⟨rfl, ?_⟩, fun _ c d _ _ z _ _ => absurd z (no c d)⟩⟩
      rw [decide_eq_true rfl]
      exact q H4 (.of (s3x.trans s4)) (((G.same s3x).same s4).le (by omega))
    · have ln := bs.ln yes min
      obtain ⟨t1, ht1⟩ : ∃ t, t = s' / Nat.gcd s s' := ⟨_, rfl⟩
      obtain ⟨t2, ht2⟩ : ∃ t, t = s / Nat.gcd s s' := ⟨_, rfl⟩
      rw [← ht1, ← ht2] at ln
      refine ⟨_, rfl, _, rfl, x1, x2, ps, y, s, y', s', rfl, ox1, ox2, bs, fun _ _ _ _ no _ _ => absurd yes (no c d), fun t p sp c' d' H3 s3 yes' min' ht hp hsp => ?_⟩
      have ec : c' = c := Nat.le_antisymm (min' c d yes) (min c' d' yes')
      subst ec
      have ed : d' = d := Nat.eq_of_mul_eq_mul_left bs.s2 (by omega)
      subst ed
      rw [← ht1, ← ht2] at hsp
      refine ⟨_, rfl, rfl, false, rfl, iteF ?_⟩
      rw [tnext_eq]
      have ox := ox.same s3
      have ox1 := ox1.same s3
      have ox2 := ox2.same s3
      have hL := s3 _ _ hL
      have hp1 := s3 _ _ hp1
      have hp2 := s3 _ _ hp2
      have hpd := s3 _ _ hpd
      have G := G.same s3
      have q := fun H' (s : SameX g H3 H') => q H' ((SameX.of s3).trans s)
      clear s3
      -- common, steps
      refine ⟨_, rfl, L, _, 0, .ref p1, rfl, rfl, .inl (.inl hL), atI_nat (j := 0) rfl, p1, _, 1, .int (s : Nat), rfl, rfl, .inl (.inl hp1), atI_nat (j := 1) rfl, _, rfl, L, _, 1, .ref p2, rfl, rfl, .inl (.inl hL), atI_nat (j := 1) rfl, p2, _, 1, .int (s' : Nat), rfl, rfl, .inl (.inl hp2), atI_nat (j := 1) rfl, s, s', rfl, bs.s1, bs.s2, b1, b2, ?_⟩
      have g1 : 1 ≤ Nat.gcd s s' := Nat.gcd_pos_of_pos_left _ bs.s1
      have gle : Nat.gcd s s' ≤ s := Nat.gcd_le_left _ bs.s1
      refine ⟨_, rfl, L, _, 1, .ref p2, rfl, rfl, .inl (.inl hL), atI_nat (j := 1) rfl, p2, _, 1, .int (s' : Nat), rfl, rfl, .inl (.inl hp2), atI_nat (j := 1) rfl, _, rfl, _, _, rfl, rfl, wide_div (b := 200) (by omega) (by omega) (by decide) (by decide), _, rfl, L, _, 0, .ref p1, rfl, rfl, .inl (.inl hL), atI_nat (j := 0) rfl, p1, _, 1, .int (s : Nat), rfl, rfl, .inl (.inl hp1), atI_nat (j := 1) rfl, _, rfl, _, _, rfl, rfl, wide_div (b := 200) (by omega) (by omega) (by decide) (by decide), by show 2 ≤ sizeLine; decide, fun st nst => ?_⟩
      have e1 : ((s' : Nat) : Int) / ((Nat.gcd s s' : Nat) : Int) = (t1 : Nat) := by rw [ht1]; rfl
      have e2 : ((s : Nat) : Int) / ((Nat.gcd s s' : Nat) : Int) = (t2 : Nat) := by rw [ht2]; rfl
      dsimp only
      rw [e1, e2]
      have sst := sameNew (o := .tup [.int (t1 : Nat), .int (t2 : Nat)]) nst
      have hst := upd_same (H := H3) (a := st) (o := .tup [.int (t1 : Nat), .int (t2 : Nat)])
      have ox := ox.same sst
      have ox1 := ox1.same sst
      have ox2 := ox2.same sst
      have hL := sst _ _ hL
      have hp1 := sst _ _ hp1
      have hpd := sst _ _ hpd
      have ht := sst _ _ ht
      have hp := sst _ _ hp
      have hsp := sst _ _ hsp
      have G := G.same sst
      have q := fun H' (s : SameX g _ H') => q H' ((SameX.of sst).trans s)
      generalize upd H3 st (.tup [.int (t1 : Nat), .int (t2 : Nat)]) = H4 at *
      clear sst
      -- what is told
      refine ⟨_, rfl, _, rfl, _, rfl, by show 3 ≤ sizeLine; decide, fun tt ntt => ?_⟩
      have stt := sameNew (o := .tup [.str (Str.ofString "line"), .ref pd, .ref st]) ntt
      refine ⟨.tuple [.str (Str.ofString "line"), .tuple [.int (c' : Nat), .int (d' : Nat)], .tuple [.int (t1 : Nat), .int (t2 : Nat)]], .tup (.inl (.inl (stt _ _ ht))) (.cons (.str _) (.cons (.tup (.inl (.inl (stt _ _ hp))) (.cons (.int _) (.cons (.int _) .nil))) (.cons (.tup (.inl (.inl (stt _ _ hsp))) (.cons (.int _) (.cons (.int _) .nil))) .nil))), .tup (.inl (.inl upd_same)) (.cons (.str _) (.cons (.tup (.inl (.inl (stt _ _ hpd))) (.cons (.int _) (.cons (.int _) .nil))) (.cons (.tup (.inl (.inl (stt _ _ hst))) (.cons (.int _) (.cons (.int _) .nil))) .nil))), shaped_line _ _ _ _, _, rfl, iteF ?_⟩
      rw [tnext_eq]
      have ox := ox.same stt
      have ox1 := ox1.same stt
      have ox2 := ox2.same stt
      have hL := stt _ _ hL
      have hp1 := stt _ _ hp1
      have hpd := stt _ _ hpd
      have hst := stt _ _ hst
      have G := G.same stt
      have q := fun H' (s : SameX g _ H') => q H' ((SameX.of stt).trans s)
      generalize upd H4 tt (.tup [.str (Str.ofString "line"), .ref pd, .ref st]) = H5 at *
      clear stt
      -- found
      refine ⟨_, rfl, _, rfl, x1, x2, ps, y, s, y', s', rfl, ox1, ox2, bs, fun _ _ no => absurd yes (no _ _), fun x3 c2 d2 H6 s6 yes2 min2 ox3 => ?_⟩
      have ec : c2 = c' := Nat.le_antisymm (min2 _ _ yes) (min _ _ yes2)
      subst ec
      rw [← ht1] at ox3
      have ox := ox.same s6
      have ox1 := ox1.same s6
      have ox2 := ox2.same s6
      have hL := s6 _ _ hL
      have hp1 := s6 _ _ hp1
      have hpd := s6 _ _ hpd
      have hst := s6 _ _ hst
      have G := G.same s6
      have q := fun H' (s : SameX g _ H') => q H' ((SameX.of s6).trans s)
      clear s6
      have lw := ln.wz
      have lz := ln.z100
      have lt := ln.stb
      have lc := ln.c100
      have ld := ln.d100
      have lt1 := ln.t1b
      have lt2 := ln.t2b
      refine ⟨_, rfl, L, _, 0, .ref p1, rfl, rfl, .inl (.inl hL), atI_nat (j := 0) rfl, p1, _, 0, .int (y : Nat), rfl, rfl, .inl (.inl hp1), atI_nat (j := 0) rfl, _, rfl, L, _, 0, .ref p1, rfl, rfl, .inl (.inl hL), atI_nat (j := 0) rfl, p1, _, 1, .int (s : Nat), rfl, rfl, .inl (.inl hp1), atI_nat (j := 1) rfl, _, rfl, pd, _, 0, .int (c2 : Nat), rfl, rfl, .inl (.inl hpd), atI_nat (j := 0) rfl, _, _, rfl, rfl, wide_mul (a := 200) (b := 200) (by omega) (by omega) (by decide) (by decide) (by decide), _, _, rfl, rfl, ?_⟩
      refine ⟨_, rfl, L, _, 0, .ref p1, rfl, rfl, .inl (.inl hL), atI_nat (j := 0) rfl, p1, _, 1, .int (s : Nat), rfl, rfl, .inl (.inl hp1), atI_nat (j := 1) rfl, _, rfl, st, _, 0, .int (t1 : Nat), rfl, rfl, .inl (.inl hst), atI_nat (j := 0) rfl, _, _, rfl, rfl, wide_mul (a := 200) (b := 200) (by omega) (by omega) (by decide) (by decide) (by decide), by show 2 ≤ sizeLine; decide, fun fh nfh => ?_⟩
      have ev1 : (y : Int) + (s : Int) * (c2 : Int) = ((y + s * c2 : Nat) : Int) := by push_cast; rfl
      have ev2 : (s : Int) * (t1 : Int) = ((s * t1 : Nat) : Int) := by push_cast; rfl
      dsimp only
      rw [ev1, ev2]
      have sfh := sameNew (o := .tup [.int (y + s * c2 : Nat), .int (s * t1 : Nat)]) nfh
      have r3 := bs.rg (z := y + s * c2) (t := s * t1) (by omega) lt lw
      refine ⟨_, rfl, _, rfl, _, rfl, by show 1 ≤ sizeLine; decide, fun la nla => ?_⟩
      have sla := sameNew (o := .lst [.ref fh]) nla
      have s7 := sfh.trans sla
      refine ⟨x, la, 1, 1, _, [[y + s * c2, s * t1]], rfl, ox.same s7, by decide, by decide, ⟨_, upd_same, .cons (sla _ _ upd_same) .nil⟩, rfl, lens_ys _ _, bf_gs (by omega) (by omega), r3.bfs, Nat.le_trans r3.me (by decide), r3.wl (by decide), fun x4 H8 s8 ox4 => ?_⟩
      have s8 := s7.trans s8
      have ox4 : OT CO H8 x4 1 (RP (y + s * c2) (s * t1) ps) := ox4
      rw [← RP_RP] at ox4
      have ox3 := ox3.same s8
      obtain ⟨l1, ⟨dx, ha⟩, ga⟩ := id ox3
      obtain ⟨l2, ⟨dy, hb⟩, gb⟩ := id ox4
      refine ⟨x3, x4, dx, _, dy, _, rfl, rfl, ha, hb, x3, x4, 1, 1, _, _, rfl, ox3, ox4, _, rfl, ?_⟩
      rw [decide_eq_true (show 1 = 1 from rfl), Bool.true_and, decide_eq_true rfl]
      refine ⟨_, rfl, iteF ?_⟩
      rw [tnext_eq]
      have ox1 := ox1.same s8
      have ox2 := ox2.same s8
      have hpd := s8 _ _ hpd
      have hst := s8 _ _ hst
      have G := G.same s8
      have q := fun H' (s : SameX g H8 H') => q H' ((SameX.of s8).trans s)
      clear ox4 ha hb s8
      have lsm := ln.same
      have tnf := ln.tn bs
      have rga := ln.rg1 bs
      have rgb := ln.rg2 bs
      have tn1 := bs.tn (z := y) (t := s) (by omega) (by omega) bs.w1
      have tn2 := bs.tn (z := y') (t := s') (by omega) (by omega) bs.w2
      -- the words
      refine ⟨_, rfl, _, _, rfl, rfl, ⟨by decide, by decide⟩, g, (10 : Int) ^ Int.toNat 9, n + 5, rfl, G.le (by omega), by decide, by decide, fun r H9 s9 G9 r0 r1 => ⟨by show 3 ≤ sizeLine; decide, fun lt nlt => ?_⟩⟩
      have e9 : (10 : Int) ^ Int.toNat 9 = 1000000000 := rfl
      rw [e9] at r1
      obtain ⟨rn, rfl⟩ : ∃ k : Nat, r = k := ⟨r.toNat, by omega⟩
      have slt := sameNew (o := .lst [.int 0, .int 1, .int (rn : Nat)]) nlt
      have ox1 := (ot_sameX ox1 G s9).same slt
      have ox2 := (ot_sameX ox2 G s9).same slt
      have ox3 := (ot_sameX ox3 G s9).same slt
      have hpd := slt _ _ (s9.tup G hpd)
      have hst := slt _ _ (s9.tup G hst)
      have G := G9.same slt
      have q := fun H' (s : SameX g _ H') => q H' (s9.trans ((SameX.of slt).trans s))
      have hlt := upd_same (H := H9) (a := lt) (o := .lst [.int 0, .int 1, .int (rn : Nat)])
      generalize upd H9 lt (.lst [.int 0, .int 1, .int (rn : Nat)]) = HA at *
      clear slt s9 G9
      refine ⟨lt, rfl, ⟨_, .inl (.inl hlt)⟩, ?_⟩
      refine for_list (K := K) (a := lt) (xs := [.int 0, .int 1, .int (rn : Nat)]) (fun i σ H' => Same HA H' ∧ ∃ y11 y12 y13 : Option V, σ = [some (.ref g), some (.ref x), some (.ref L), some (.ref pd), some (.ref x1), some (.ref x2), some (.ref t), some (.int (Nat.gcd s s' : Nat)), some (.ref st), some (.ref x3), some (.ref fh), y11, y12, y13]) ⟨.refl _, none, none, none, rfl⟩ (fun i σ H' _ p => .inl (.inl (p.1 _ _ hlt))) (fun i v σ H' hi p => ?_) fun σ H' p => ?_
      · obtain ⟨sI, y11, y12, y13, rfl⟩ := p
        obtain ⟨z, rfl, hz⟩ : ∃ z : Nat, v = .int (z : Nat) ∧ z ≤ 2 ^ 30 := by
          match i, hi with
          | 0, h => cases h; exact ⟨0, rfl, by decide⟩
          | 1, h => cases h; exact ⟨1, rfl, by decide⟩
          | 2, h => cases h; exact ⟨rn, rfl, by omega⟩
          | k + 3, h => simp at h
        have hz1 : t1 * z ≤ 2 ^ 30 * 2 ^ 30 := Nat.mul_le_mul lt1 hz
        have hz2 : t2 * z ≤ 2 ^ 30 * 2 ^ 30 := Nat.mul_le_mul lt2 hz
        have ox1 := ox1.same sI
        have ox2 := ox2.same sI
        have ox3 := ox3.same sI
        have hpd := sI _ _ hpd
        have hst := sI _ _ hst
        have ec1 : (c2 : Int) + (t1 : Int) * (z : Int) = ((c2 + t1 * z : Nat) : Int) := by push_cast; rfl
        have ec2 : (d' : Int) + (t2 : Int) * (z : Int) = ((d' + t2 * z : Nat) : Int) := by push_cast; rfl
        have ok1 := tn1.ok (x := c2 + t1 * z) (by omega)
        have ok2 := tn2.ok (x := d' + t2 * z) (by omega)
        have ok3 := tnf.ok (x := z) (by omega)
        refine ⟨_, rfl, _, rfl, pd, _, 0, .int (c2 : Nat), rfl, rfl, .inl (.inl hpd), atI_nat (j := 0) rfl, _, rfl, st, _, 0, .int (t1 : Nat), rfl, rfl, .inl (.inl hst), atI_nat (j := 0) rfl, _, rfl, _, _, rfl, rfl, wide_mul (a := 200) (b := 200) (by omega) (by omega) (by decide) (by decide) (by decide), _, _, rfl, rfl, by show 1 ≤ sizeLine; decide, fun lc nlc => ?_⟩
        dsimp only at nlc ⊢
        rw [ec1]
        have slc := sameNew (o := .lst [.int (c2 + t1 * z : Nat)]) nlc
        refine ⟨x1, lc, 1, 1000, _, [c2 + t1 * z], rfl, ox1.same slc, upd_same, rfl, by decide, bf_one (by omega), ok1, by decide, fun k1 H1 s1 kw1 => ?_⟩
        have s1 := slc.trans s1
        have ox2 := ox2.same s1
        have ox3 := ox3.same s1
        have hpd := s1 _ _ hpd
        have hst := s1 _ _ hst
        refine ⟨_, rfl, _, rfl, pd, _, 1, .int (d' : Nat), rfl, rfl, .inl (.inl hpd), atI_nat (j := 1) rfl, _, rfl, st, _, 1, .int (t2 : Nat), rfl, rfl, .inl (.inl hst), atI_nat (j := 1) rfl, _, rfl, _, _, rfl, rfl, wide_mul (a := 200) (b := 200) (by omega) (by omega) (by decide) (by decide) (by decide), _, _, rfl, rfl, by show 1 ≤ sizeLine; decide, fun ld nld => ?_⟩
        dsimp only at nld ⊢
        rw [ec2]
        have sld := sameNew (o := .lst [.int (d' + t2 * z : Nat)]) nld
        refine ⟨x2, ld, 1, 1000, _, [d' + t2 * z], rfl, ox2.same sld, upd_same, rfl, by decide, bf_one (by omega), ok2, by decide, fun k2 H2 s2 kw2 => ⟨_, _, rfl, ?_⟩⟩
        have s2 := sld.trans s2
        have ox3 := ox3.same s2
        have kw1 := kw1.same s2
        refine ⟨_, rfl, _, rfl, by show 1 ≤ sizeLine; decide, fun le nle => ?_⟩
        have sle := sameNew (o := .lst [.int (z : Nat)]) nle
        refine ⟨x3, le, 1, 1000, _, [z], rfl, ox3.same sle, upd_same, rfl, by decide, bf_one (by omega), ok3, by decide, fun k3 H3 s3 kw3 => ?_⟩
        have s3 := sle.trans s3
        refine ⟨_, rfl, k3, k1, _, _, 1000, rfl, kw3, kw1.same s3, ok3.tidy, ok1.tidy, by decide, (ty_tidy _).all, (ty_tidy _).all, fun H4 s4 => ?_⟩
        rw [wr_tidy, wr_tidy, wr_atP, wr_atP, wr_RP z c2 t1 (RP y s ps), decide_eq_true rfl]
        have s14 := s3.trans s4
        refine ⟨_, rfl, iteF ⟨_, rfl, _, rfl, k1, k2, _, _, 1000, rfl, kw1.same s14, kw2.same s14, ok1.tidy, ok2.tidy, by decide, (ty_tidy _).all, (ty_tidy _).all, fun H5 s5 => ?_⟩⟩
        have ew : NM.wr [c2 + t1 * z] (RP y s ps) = NM.wr [d' + t2 * z] (RP y' s' ps) := by rw [← wr_RP z c2 t1, ← wr_RP z d' t2, lsm]
        rw [wr_tidy, wr_tidy, wr_atP, wr_atP, decide_eq_true ew]
        refine ⟨_, rfl, iteF ?_⟩
        exact ⟨sI.trans (s1.trans (s2.trans (s14.trans s5))), _, _, _, rfl⟩
      · obtain ⟨sI, y11, y12, y13, rfl⟩ := p
        have ox1 := ox1.same sI
        have ox2 := ox2.same sI
        have hpd := sI _ _ hpd
        have hst := sI _ _ hst
        refine ⟨_, rfl, _, rfl, pd, _, 0, .int (c2 : Nat), rfl, rfl, .inl (.inl hpd), atI_nat (j := 0) rfl, _, rfl, st, _, 0, .int (t1 : Nat), rfl, rfl, .inl (.inl hst), atI_nat (j := 0) rfl, by show 2 ≤ sizeLine; decide, fun fa nfa => ⟨by show 1 ≤ sizeLine; decide, fun la nla => ?_⟩⟩
        have sfa := sameNew (o := .tup [.int (c2 : Nat), .int (t1 : Nat)]) nfa
        have sla := sameNew (o := .lst [.ref fa]) nla
        have s1 := sfa.trans sla
        refine ⟨x1, la, 1, 1, _, [[c2, t1]], rfl, ox1.same s1, by decide, by decide, ⟨_, upd_same, .cons (sla _ _ upd_same) .nil⟩, rfl, lens_ys _ _, bf_gs (by omega) (by omega), rga.bfs, Nat.le_trans rga.me (by decide), rga.wl (by decide), fun u1 H1 s1' ou1 => ?_⟩
        have s1 := s1.trans s1'
        have hpd := s1 _ _ hpd
        have hst := s1 _ _ hst
        refine ⟨_, rfl, _, rfl, pd, _, 1, .int (d' : Nat), rfl, rfl, .inl (.inl hpd), atI_nat (j := 1) rfl, _, rfl, st, _, 1, .int (t2 : Nat), rfl, rfl, .inl (.inl hst), atI_nat (j := 1) rfl, by show 2 ≤ sizeLine; decide, fun fb nfb => ⟨by show 1 ≤ sizeLine; decide, fun lb nlb => ?_⟩⟩
        have sfb := sameNew (o := .tup [.int (d' : Nat), .int (t2 : Nat)]) nfb
        have slb := sameNew (o := .lst [.ref fb]) nlb
        have s2 := sfb.trans slb
        refine ⟨x2, lb, 1, 1, _, [[d', t2]], rfl, ox2.same (s1.trans s2), by decide, by decide, ⟨_, upd_same, .cons (slb _ _ upd_same) .nil⟩, rfl, lens_ys _ _, bf_gs (by omega) (by omega), rgb.bfs, Nat.le_trans rgb.me (by decide), rgb.wl (by decide), fun u2 H2 s2' ou2 => ?_⟩
        have s2 := s2.trans s2'
        have ou1 : OT CO H2 u1 1 (RP c2 t1 (RP y s ps)) := ou1.same s2
        have ou2 : OT CO H2 u2 1 (RP d' t2 (RP y' s' ps)) := ou2
        rw [← lsm] at ou2
        refine ⟨u1, u2, _, _, rfl, ou1, ou2, tnf, tnf, fun v H3 s3 hv => ?_⟩
        have hv : v = .non := by
          unfold agr at hv
          rw [if_pos rfl] at hv
          exact hv
        subst hv
        refine ⟨rfl, ?_⟩
        rw [decide_eq_true rfl]
        have sA := sI.trans (s1.trans (s2.trans s3))
        exact q H3 (.of sA) ((G.same sA).le (by omega))
end
end K39K

set_option Elab.async false
set_option linter.all false
set_option maxRecDepth 100000
set_option maxHeartbeats 8000000
set_option exponentiation.threshold 1000
namespace K39K
open K39 PySem PySem.Spec PyProof.Rows L2 CK SX KM NM
/-- the least common value of two small progressions is small -/
theorem due_small {y s y' s' c d : Nat} (hy : y ≤ 3) (hy' : y' ≤ 3) (s1 : 1 ≤ s) (s1' : 1 ≤ s') (s5 : s ≤ 5) (s5' : s' ≤ 5) (e : y + s * c = y' + s' * d) (min : ∀ c' d', y + s * c' = y' + s' * d' → c ≤ c') : y + s * c ≤ 27 := by
  by_cases h : c < s'
  · have : s * c ≤ 5 * 4 := Nat.mul_le_mul s5 (by omega)
    omega
  · obtain ⟨k, rfl⟩ : ∃ k, c = s' + k := ⟨c - s', by omega⟩
    rw [Nat.mul_add] at e ⊢
    have ss : s * s' ≤ 5 * 5 := Nat.mul_le_mul s5 s5'
    by_cases z : y' ≤ y + s * k
    · have le : s' * s ≤ s' * d := by rw [Nat.mul_comm s' s]; omega
      have ds := Nat.le_of_mul_le_mul_left le (show 0 < s' by omega)
      obtain ⟨m, rfl⟩ : ∃ m, d = s + m := ⟨d - s, by omega⟩
      rw [Nat.mul_add, Nat.mul_comm s' s] at e
      have := min k m (by omega)
      omega
    · omega
theorem due_near {y s y' s' : Nat} (hy' : y' ≤ 3) (s1 : 1 ≤ s) (s1' : 1 ≤ s') (s5' : s' ≤ 5) : ∀ (n c d : Nat), c ≤ n → y + s * c = y' + s' * d → ∃ c' d', c' < 60 ∧ y + s * c' = y' + s' * d'
  | 0, c, d, h, e => ⟨c, d, by omega, e⟩
  | n + 1, c, d, h, e => by
    by_cases z : c < 60
    · exact ⟨c, d, z, e⟩
    · obtain ⟨k, rfl⟩ : ∃ k, c = s' + k := ⟨c - s', by omega⟩
      rw [Nat.mul_add] at e
      have sk : 1 * k ≤ s * k := Nat.mul_le_mul_right _ s1
      have le : s' * s ≤ s' * d := by rw [Nat.mul_comm s' s]; omega
      have ds := Nat.le_of_mul_le_mul_left le (show 0 < s' by omega)
      obtain ⟨m, rfl⟩ : ∃ m, d = s + m := ⟨d - s, by omega⟩
      rw [Nat.mul_add, Nat.mul_comm s' s] at e
      exact due_near hy' s1 s1' s5' n k m (by omega) (by omega)
theorem TB.bs {y s y' s' : Nat} {ps : List Pn} (h : TB 2 ps) (hy : y ≤ 3) (hy' : y' ≤ 3) (s1 : 1 ≤ s) (s1' : 1 ≤ s') (s5 : s ≤ 5) (s5' : s' ≤ 5) : Bs y s y' s' ps :=
  ⟨h.nm, h.low, Nat.le_trans h.tot (by decide), h.few, h.grow, Nat.le_trans h.ones (by decide), s1, s1', by omega, by omega, hy, hy', Nat.le_trans (h.at_ y) (by omega), Nat.le_trans (h.at_ y') (by omega), fun c d e min => by
    have := due_small hy hy' s1 s1' s5 s5' e min
    exact ⟨by omega, Nat.le_trans (h.at_ _) (by omega)⟩⟩
theorem TB.bs0 {most s s' : Nat} {ps : List Pn} (h : TB most ps) (s1 : 1 ≤ s) (s1' : 1 ≤ s') (s5 : s ≤ 2 ^ 30) (s5' : s' ≤ 2 ^ 30) : Bs 0 s 0 s' ps :=
  ⟨h.nm, h.low, Nat.le_trans h.tot (by decide), h.few, h.grow, Nat.le_trans h.ones (by decide), s1, s1', s5, s5', by decide, by decide, Nat.le_trans (h.at_ 0) (by omega), Nat.le_trans (h.at_ 0) (by omega), fun c d e min => by
    have z : c = 0 := Nat.le_zero.mp (min 0 0 (by omega))
    subst z
    rw [Nat.mul_zero]
    exact ⟨by omega, Nat.le_trans (h.at_ _) (by omega)⟩⟩
theorem Fs.get2 {H : Hp} {vs : List V} {f1 f2 : F} (h : K39.Fs H vs [f1, f2]) : ∃ p1 p2, vs = [.ref p1, .ref p2] ∧ FT H p1 f1 ∧ FT H p2 f2 := by
  cases h with
  | cons a r =>
    cases r with
    | cons b n =>
      cases n
      exact ⟨_, _, rfl, a, b⟩
section
variable {P : Program} {w : World} {K : PySem.W.Frag} {mg : Str → Option Value} {base : Heap} {C CO : Addr}
theorem right_tail (T : Txt K mg C CO) (f0 : Addr) (cdv : Value) (A : Around) (outer : List Env) (s0 : Shared) (H0 : Hp) (E : XK) (hr : Room 14 (A.deeper (envOfC "_law_right" (C8.fnScope (topS 106)) s0.heap.objs.size f0 cdv))) :
    ∃ u, PSs (cxOf C8.CX0 P w K mg base ["_law_generator_here", "_law_letters_here", "_law_text_here", "_law_far", "_law_ways", "_law_turn", "_law_due", "_law_scale", "_law_great"] "_law_right" (C8.fnScope (topS 106)) f0 cdv A outer s0 H0 E).nox ((C8.fnBody (topS 106)).drop 4) u ∧
      ∀ (Dn : Ends) (H : Hp) (g x1 x2 L p1 p2 : Addr) (due : V) (cs : List Nat) (ps qs : List Pn) (y s y' s' : Nat), OT CO H x1 1 ps → OT CO H x2 1 qs → H L = some (.lst [.ref p1, .ref p2]) → H p1 = some (.tup [.int (y : Nat), .int (s : Nat)]) → H p2 = some (.tup [.int (y' : Nat), .int (s' : Nat)]) → Bs y s y' s' ps → TB (10 ^ 9) qs →
        ((due = .non ∧ ∀ c d, y + s * c ≠ y' + s' * d) ∨ ∃ (pd : Addr) (c d : Nat), due = .ref pd ∧ H pd = some (.tup [.int (c : Nat), .int (d : Nat)]) ∧ y + s * c = y' + s' * d ∧ ∀ c' d', y + s * c' = y' + s' * d' → c ≤ c') →
        Gn 5000 H g → (∀ H', SameX g H H' → Dn.rt (.bl true) H') →
        u Dn [some (.ref g), some (.str (S cs)), some (.ref x1), some (.ref x2), some (.ref L), none, some due, none, none] H := by
  refine ⟨_, (pss_cons (ps_if (pt_not (pt_val (C8.pe_c (c_law_told_right T) hr (by decide) (by rfl) (pa_cons (pv 0) (pa_cons (pv 2) (pa_cons (pv 4) (pa_cons (pv 6) pa_nil)))))))
    (pss_one (ps_ret pe_bl))
    pss_nil)
    (pss_cons (ps_set (i := 7) sc_law_right.nd rfl (Or.inr rfl) (pe_op op_add pe_int (C8.pe_c (c_law_random T) hr (by decide) (by rfl) (pa_cons (pv 0) (pa_cons pe_int pa_nil)))))
    (pss_cons (ps_setLc (i := 8) (own := [("_law_turn", 5)]) rfl sc_law_right.nd rfl rfl (sw_true rfl rfl rfl (by decide +kernel)) (pi_range1 (by rfl) T.m_range (pa_cons pe_int pa_nil)) (blkOk_by (N := ["_law_generator_here", "_law_letters_here", "_law_text_here", "_law_far", "_law_ways", "_law_turn", "_law_due", "_law_scale", "_law_great"]) (sc := C8.fnScope (topS 106)) (own := [("_law_turn", 5)]) (by decide +kernel)) (fun _ _ _ _ _ => (pg_name (i := 5) sc_law_right.nd rfl (Or.inl rfl))) (fun _ _ _ _ _ => pts_nil) (fun _ _ _ _ _ => (pe_tup (pa_cons pe_int (pa_cons (pe_op op_mulW (pv 7) (pe_op op_add pe_int (C8.pe_c (c_law_random T) hr (by decide) (by rfl) (pa_cons (pv 0) (pa_cons (pe_op op_powB pe_int pe_int) pa_nil))))) pa_nil)))))
    (pss_one (ps_ret (C8.pe_c (c_law_told_right T) hr (by decide) (by rfl) (pa_cons (pv 0) (pa_cons (pv 3) (pa_cons (pv 8) (pa_cons (pe_tup (pa_cons pe_int (pa_cons pe_int pa_nil))) pa_nil)))))))))), ?_⟩
  intro Dn H g x1 x2 L p1 p2 due cs ps qs y s y' s' ox1 ox2 hL hp1 hp2 bs tb hd G q
  refine ⟨_, rfl, _, rfl, _, rfl, _, rfl, g, x1, L, p1, p2, due, ps, y, s, y', s', 4000, rfl, ox1, hL, hp1, hp2, bs, hd, G.le (by decide), fun H1 s1 G1 => ⟨_, rfl, iteF ?_⟩⟩
  have ox2 := ot_sameX ox2 G s1
  refine ⟨_, rfl, g, 1000, 3990, rfl, G1.le (by decide), by decide, by decide, fun r H2 s2 G2 r0 r1 => ⟨_, _, rfl, rfl, ?_⟩⟩
  obtain ⟨sc, hsc⟩ : ∃ k : Nat, 1 + r = k := ⟨(1 + r).toNat, by omega⟩
  dsimp only
  rw [hsc]
  have sc1 : 1 ≤ sc := by omega
  have sc2 : sc ≤ 1000 := by omega
  have ox2 := ot_sameX ox2 G1 s2
  have q := fun H' (s : SameX g H2 H') => q H' (s1.trans (s2.trans s))
  clear s1 s2 G1 hd
  refine ⟨2, rfl, by decide, by decide, fun D hD => ?_⟩
  have Dg := G2.ne hD
  refine lc_range (fun i H3 => i ≤ 2 ∧ Gn (3000 + 10 * (4 - i)) H3 g ∧ SameX g H2 H3 ∧ ∃ fs, K39.FL H3 D fs ∧ fs.length = i ∧ ∀ f ∈ fs, ∃ t, f = [0, t] ∧ 1 ≤ t ∧ t ≤ 2 ^ 30) ⟨Nat.zero_le _, (G2.upd Dg).le (by decide), sameX_new hD, [], ⟨[], upd_same, .nil⟩, rfl, fun f hf => by cases hf⟩ (fun i H3 hi p => ?_) fun H3 p => ?_
  · obtain ⟨_, G3, s3, fs, ⟨us, hus, pus⟩, lfs, hf⟩ := p
    have i2 : i < 2 := hi
    have lu := pus.len
    have eG : 3000 + 10 * (4 - i) = 3000 + 10 * (4 - (i + 1)) + 9 + 1 := by omega
    rw [eG] at G3
    refine ⟨rfl, yes_if ⟨_, rfl, _, rfl, _, _, rfl, rfl, ⟨by decide, by decide⟩, g, (10 : Int) ^ Int.toNat 6, _, rfl, G3, by decide, by decide, fun r H4 s4 G4 r0 r1 => ⟨_, _, rfl, rfl, ?_⟩⟩⟩
    have e6 : (10 : Int) ^ Int.toNat 6 = 1000000 := rfl
    rw [e6] at r1
    obtain ⟨k, hk⟩ : ∃ k : Nat, 1 + r = k := ⟨(1 + r).toNat, by omega⟩
    dsimp only
    rw [hk]
    have k1 : 1 ≤ k := by omega
    have k2 : k ≤ 1000000 := by omega
    have m1 : 1 * 1 ≤ sc * k := Nat.mul_le_mul sc1 k1
    have m2 : sc * k ≤ 1000 * 1000000 := Nat.mul_le_mul sc2 k2
    refine ⟨_, _, rfl, rfl, wide_mul (a := 200) (b := 200) (by omega) (by omega) (by decide) (by decide) (by decide), by show 2 ≤ sizeLine; decide, fun t nt => ?_⟩
    have ev : (sc : Int) * (k : Int) = ((sc * k : Nat) : Int) := by push_cast; rfl
    dsimp only at nt ⊢
    rw [ev]
    have st := sameNew (o := .tup [.int 0, .int (sc * k : Nat)]) nt
    have hus4 := st _ _ (s4 _ _ Dg hus)
    have pus4 := (pus.mono fun a xs e => s4.tup G3 e).same st
    refine ⟨us, hus4, by rw [sizeLine_eq]; omega, by omega, ((G4.same st).upd Dg).le (by omega), ((s3.trans s4).trans (.of st)).upd2 hD, fs ++ [[0, sc * k]], ⟨_, upd_same, (pus4.mono (tup_upd hus4)).app (.cons (tup_upd hus4 _ _ upd_same) .nil)⟩, by rw [List.length_append, lfs]; rfl, fun f hf' => ?_⟩
    rcases List.mem_append.mp hf' with z | z
    · exact hf f z
    · rw [List.mem_singleton.mp z]
      exact ⟨_, rfl, by omega, by omega⟩
  obtain ⟨_, G3, s3, fs, ⟨us, hus, pus⟩, lfs, hf⟩ := p
  have lfs : fs.length = 2 := lfs
  obtain ⟨f1, f2, rfl⟩ : ∃ f1 f2, fs = [f1, f2] := by
    match fs, lfs with
    | [a, b], _ => exact ⟨a, b, rfl⟩
  obtain ⟨t1, rfl, a1, b1⟩ := hf f1 (by simp)
  obtain ⟨t2, rfl, a2, b2⟩ := hf f2 (by simp)
  obtain ⟨q1, q2, rfl, hq1, hq2⟩ := Fs.get2 pus
  have ox2 := ot_sameX ox2 G2 s3
  refine ⟨_, rfl, _, rfl, _, rfl, by show 2 ≤ sizeLine; decide, fun tz ntz => ?_⟩
  have stz := sameNew (o := .tup [.int 0, .int 0]) ntz
  refine ⟨g, x2, D, q1, q2, .ref tz, qs, 0, t1, 0, t2, 2000, rfl, ox2.same stz, stz _ _ hus, stz _ _ hq1, stz _ _ hq2, tb.bs0 a1 a2 b1 b2, .inr ⟨tz, 0, 0, rfl, upd_same, by omega, fun _ _ _ => Nat.zero_le _⟩, (G3.same stz).le (by decide), fun H4 s4 _ => ?_⟩
  exact q H4 (s3.trans ((SameX.of stz).trans s4))
def sp_law_right : Sp := fun vs H Q _ => ∃ g : Addr, vs = [.ref g] ∧ Gn 10000 H g ∧ ∀ H', SameX g H H' → Q (.bl true) H'
theorem c_law_right (T : Txt K mg C CO) : C8.Cal P w K mg base 15 "_law_right" sp_law_right [] := by
  refine calF T.d_law_right sc_law_right (fun vs H Q E h => ?_) (fun f0 cdv A outer s0 H vs Q E hr h => ?_)
  · obtain ⟨_, rfl, _⟩ := h; rfl
  · obtain ⟨g, rfl, G, q⟩ := h
    obtain ⟨u, hu, tail⟩ := right_tail T f0 cdv A outer s0 H E hr
    refine ⟨_, (pss_cons (ps_set (i := 1) sc_law_right.nd rfl (Or.inl rfl) (C8.pe_c (c_law_letters T) hr (by decide) (by rfl) (pa_cons (pv 0) pa_nil)))
    (pss_cons (ps_par (i := 2) (j := 3) (by rfl) sc_law_right.nd rfl rfl (by decide) rfl rfl (pa_cons (C8.pe_c (c_law_text T) hr (by decide) (by rfl) (pa_cons (pv 0) (pa_cons (pv 1) (pa_cons pe_int pa_nil)))) (pa_cons (C8.pe_c (c_law_text T) hr (by decide) (by rfl) (pa_cons (pv 0) (pa_cons (pv 1) (pa_cons (pe_op op_powB pe_int pe_int) pa_nil)))) pa_nil)) (by rfl))
    (pss_cons (ps_setLc (i := 4) (own := [("_law_turn", 5)]) rfl sc_law_right.nd rfl rfl (sw_true rfl rfl rfl (by decide +kernel)) (pi_range1 (by rfl) T.m_range (pa_cons pe_int pa_nil)) (blkOk_by (N := ["_law_generator_here", "_law_letters_here", "_law_text_here", "_law_far", "_law_ways", "_law_turn", "_law_due", "_law_scale", "_law_great"]) (sc := C8.fnScope (topS 106)) (own := [("_law_turn", 5)]) (by decide +kernel)) (fun _ _ _ _ _ => (pg_name (i := 5) sc_law_right.nd rfl (Or.inl rfl))) (fun _ _ _ _ _ => pts_nil) (fun _ _ _ _ _ => (pe_tup (pa_cons (C8.pe_c (c_law_random T) hr (by decide) (by rfl) (pa_cons (pv 0) (pa_cons pe_int pa_nil))) (pa_cons (pe_op op_add pe_int (C8.pe_c (c_law_random T) hr (by decide) (by rfl) (pa_cons (pv 0) (pa_cons pe_int pa_nil)))) pa_nil)))))
    (pss_cons (ps_set (i := 6) sc_law_right.nd rfl (Or.inl rfl) (C8.pe_c (c_law_least_pair T) hr (by decide) (by rfl) (pa_cons (pe_ix ix_tup (pe_ix ix_list (pv 4) pe_int (fun _ _ => rfl)) pe_int (fun _ _ => rfl)) (pa_cons (pe_ix ix_tup (pe_ix ix_list (pv 4) pe_int (fun _ _ => rfl)) pe_int (fun _ _ => rfl)) (pa_cons (pe_ix ix_tup (pe_ix ix_list (pv 4) pe_int (fun _ _ => rfl)) pe_int (fun _ _ => rfl)) (pa_cons (pe_ix ix_tup (pe_ix ix_list (pv 4) pe_int (fun _ _ => rfl)) pe_int (fun _ _ => rfl)) pa_nil))))))
    hu)))), ?_⟩
    refine ⟨_, rfl, g, 9990, rfl, G.le (by decide), fun cs H1 s1 G1 lcs lowc c01 => ?_⟩
    refine ⟨_, rfl, _, rfl, g, cs, 2, 9600, rfl, lcs, lowc, by decide, by decide, G1.le (by decide), fun x1 ps H2 s2 G2 o1 tb1 => ?_⟩
    refine ⟨_, rfl, _, rfl, _, _, rfl, rfl, ⟨by decide, by decide⟩, g, cs, 10 ^ 9, 9200, rfl, lcs, lowc, by decide, by decide, G2.le (by decide), fun x2 qs H3 s3 G3 o2 tb2 => ⟨_, _, rfl, ?_⟩⟩
    have o1 := ot_sameX o1 G2 s3
    have s03 := s1.trans (s2.trans s3)
    clear s1 s2 s3 G1 G2
    refine ⟨2, rfl, by decide, by decide, fun D hD => ?_⟩
    have Dg := G3.ne hD
    refine lc_range (fun i H4 => i ≤ 2 ∧ Gn (8000 + 10 * (4 - i)) H4 g ∧ SameX g H3 H4 ∧ ∃ fs, K39.FL H4 D fs ∧ fs.length = i ∧ ∀ f ∈ fs, ∃ y t, f = [y, t] ∧ y ≤ 3 ∧ 1 ≤ t ∧ t ≤ 5) ⟨Nat.zero_le _, (G3.upd Dg).le (by decide), sameX_new hD, [], ⟨[], upd_same, .nil⟩, rfl, fun f hf => by cases hf⟩ (fun i H4 hi p => ?_) fun H4 p => ?_
    · obtain ⟨_, G4, s4, fs, ⟨us, hus, pus⟩, lfs, hf⟩ := p
      have i2 : i < 2 := hi
      have lu := pus.len
      have eG : 8000 + 10 * (4 - i) = 8000 + 10 * (4 - (i + 1)) + 8 + 1 + 1 := by omega
      rw [eG] at G4
      refine ⟨rfl, yes_if ⟨_, rfl, g, 4, _, rfl, G4, by decide, by decide, fun ry H5 s5 G5 r0 r1 => ⟨_, rfl, g, 5, _, rfl, G5, by decide, by decide, fun rs H6 s6 G6 r0' r1' => ⟨_, _, rfl, rfl, by show 2 ≤ sizeLine; decide, fun t nt => ?_⟩⟩⟩⟩
      obtain ⟨yy, rfl⟩ : ∃ k : Nat, ry = k := ⟨ry.toNat, by omega⟩
      obtain ⟨ss, hss⟩ : ∃ k : Nat, 1 + rs = k := ⟨(1 + rs).toNat, by omega⟩
      dsimp only at nt ⊢
      rw [hss]
      have st := sameNew (o := .tup [.int (yy : Nat), .int (ss : Nat)]) nt
      have hus6 := st _ _ (s6 _ _ Dg (s5 _ _ Dg hus))
      have pus6 := ((pus.mono fun a xs e => s5.tup G4 e).mono fun a xs e => s6.tup G5 e).same st
      refine ⟨us, hus6, by rw [sizeLine_eq]; omega, by omega, ((G6.same st).upd Dg).le (by omega), ((s4.trans (s5.trans s6)).trans (.of st)).upd2 hD, fs ++ [[yy, ss]], ⟨_, upd_same, (pus6.mono (tup_upd hus6)).app (.cons (tup_upd hus6 _ _ upd_same) .nil)⟩, by rw [List.length_append, lfs]; rfl, fun f hf' => ?_⟩
      rcases List.mem_append.mp hf' with z | z
      · exact hf f z
      · rw [List.mem_singleton.mp z]
        exact ⟨_, _, rfl, by omega, by omega, by omega⟩
    obtain ⟨_, G4, s4, fs, ⟨us, hD4, pus⟩, lfs, hf⟩ := p
    have lfs : fs.length = 2 := lfs
    obtain ⟨f1, f2, rfl⟩ : ∃ f1 f2, fs = [f1, f2] := by
      match fs, lfs with
      | [a, b], _ => exact ⟨a, b, rfl⟩
    obtain ⟨y, s, rfl, hy, a1, b1⟩ := hf f1 (by simp)
    obtain ⟨y', s', rfl, hy', a2, b2⟩ := hf f2 (by simp)
    obtain ⟨p1, p2, rfl, hp1, hp2⟩ := Fs.get2 pus
    have hp1 : H4 p1 = some (.tup [.int (y : Nat), .int (s : Nat)]) := hp1
    have hp2 : H4 p2 = some (.tup [.int (y' : Nat), .int (s' : Nat)]) := hp2
    have o1 := ot_sameX o1 G3 s4
    have o2 := ot_sameX o2 G3 s4
    have s04 := s03.trans s4
    have bs : Bs y s y' s' ps := tb1.bs hy hy' a1 a2 b1 b2
    refine ⟨_, rfl, D, _, 0, .ref p1, rfl, rfl, .inl (.inl hD4), atI_nat (j := 0) rfl, p1, _, 0, .int (y : Nat), rfl, rfl, .inl (.inl hp1), atI_nat (j := 0) rfl, _, rfl, D, _, 0, .ref p1, rfl, rfl, .inl (.inl hD4), atI_nat (j := 0) rfl, p1, _, 1, .int (s : Nat), rfl, rfl, .inl (.inl hp1), atI_nat (j := 1) rfl, _, rfl, D, _, 1, .ref p2, rfl, rfl, .inl (.inl hD4), atI_nat (j := 1) rfl, p2, _, 0, .int (y' : Nat), rfl, rfl, .inl (.inl hp2), atI_nat (j := 0) rfl, _, rfl, D, _, 1, .ref p2, rfl, rfl, .inl (.inl hD4), atI_nat (j := 1) rfl, p2, _, 1, .int (s' : Nat), rfl, rfl, .inl (.inl hp2), atI_nat (j := 1) rfl, y, s, y', s', rfl, a2, by omega, by omega, by omega, by omega, fun H5 s5 no => ?_, fun pd c d H5 s5 hpd c60 yes min => ?_⟩
    · have no' : ∀ c d, y + s * c ≠ y' + s' * d := fun c d e => by
        obtain ⟨c', d', l, e'⟩ := due_near hy' a1 a2 b2 c c d (Nat.le_refl _) e
        exact no c' d' l e'
      exact tail _ H5 g x1 x2 D p1 p2 .non cs ps qs y s y' s' (o1.same s5) (o2.same s5) (s5 _ _ hD4) (s5 _ _ hp1) (s5 _ _ hp2) bs tb2 (.inl ⟨rfl, no'⟩) ((G4.same s5).le (by decide)) fun H6 s6 => q H6 (s04.trans ((SameX.of s5).trans s6))
    · exact tail _ H5 g x1 x2 D p1 p2 (.ref pd) cs ps qs y s y' s' (o1.same s5) (o2.same s5) (s5 _ _ hD4) (s5 _ _ hp1) (s5 _ _ hp2) bs tb2 (.inr ⟨pd, c, d, rfl, hpd, yes, min⟩) ((G4.same s5).le (by decide)) fun H6 s6 => q H6 (s04.trans ((SameX.of s5).trans s6))
end
end K39K

set_option Elab.async false
set_option linter.all false
set_option maxRecDepth 100000
set_option maxHeartbeats 4000000
namespace K39K
open K39 PySem PySem.Spec PyProof.Rows L2 CK SX KM
def sp_law (K : PySem.W.Frag) : Sp := fun vs H Q _ => ∃ (a : Addr) (ns : List Int), vs = [.ref a] ∧ SqL K H a (ns.map V.int) ∧ ns.length ≤ 63 ∧ ∀ H', Q (.bl true) H'
theorem law_end {l : PySem.W.OpenLaw} {w : World} {K : PySem.W.Frag} {mg : Str → Option Value} {fa C CO : Addr} (T : Txt K mg C CO) (hfa : mg "law" = some (.ref fa)) :
    ∃ fd : FuncData, (∀ (s : Shared) (v : Value), BindsTo s fd ⟨[v], []⟩ [("_law_script", v)]) ∧ ∀ base : Heap, K.In base → base.Ns mainGlobals mg → FnOk l.prog w K mg base C8.CX0 17 fa fd ["_law_script"] (sp_law K) := by
  obtain ⟨f, fd, hm, hb, hF⟩ := T.d_law.one
  have e := hfa.symm.trans hm
  cases e
  refine ⟨fd, hb, fun base _ _ => hF sc_law (fun vs H Q E h => ?_) (fun f cdv A outer s H vs Q E hr h => ?_)⟩
  · obtain ⟨_, _, rfl, _⟩ := h; rfl
  · obtain ⟨a, ns, rfl, hS, hl, q⟩ := h
    refine ⟨_, (pss_cons (ps_for PassesOwn.never rfl (pi_range1 (by rfl) T.m_range (pa_cons pe_int pa_nil)) (pg_name (i := 1) sc_law.nd rfl (Or.inl rfl))
    (pss_one (ps_if (pt_not (pt_val (C8.pe_c (c_law_right T) hr (by decide) (by rfl) (pa_cons (C8.pe_c (c_law_generator T) hr (by decide) (by rfl) (pa_cons (pv 0) (pa_cons (pv 1) pa_nil))) pa_nil))))
    (pss_one (ps_ret pe_bl))
    pss_nil)))
    (pss_one (ps_ret pe_bl))), ?_⟩
    refine ⟨2, rfl, by decide, by decide, ?_⟩
    refine for_it walk_range (fun i σ H' => Same H H' ∧ ∃ y1, σ = [some (.ref a), y1]) ⟨Same.refl _, none, rfl⟩ (fun _ _ _ _ _ => True.intro) (fun i x σ H' H'' hi p y => ?_) fun σ H' p => ?_
    · obtain ⟨s0, y1, rfl⟩ := p
      obtain ⟨rfl, rfl⟩ := y
      have i3 : i < 2 := hi
      refine ⟨_, rfl, _, rfl, a, ns, i, by show [V.ref a, V.int (0 + (i : Int))] = _; rw [Int.zero_add], s0.seq hS, by omega, fun g H1 H2 s1 n1 s2 G2 => ?_⟩
      refine ⟨g, rfl, G2.le (by decide), fun H3 s3 => ⟨_, rfl, iteF ⟨fun b o e => ?_, _, rfl⟩⟩⟩
      have e1 := s1 _ _ (s0 b o e)
      exact s3 b o (fun z => by rw [z, n1] at e1; cases e1) (s2 _ _ e1)
    · exact q H'
end K39K

open PySem PySem.W PyProof.Rows
set_option maxHeartbeats 0 in
theorem PySem.Challenge.cw_countscribe_k39_whole_words_of_two_progr_holds : PySem.Challenge.rw_countscribe_k39_whole_words_of_two_progr.Holds := by
  w_on; o_law; k_head; (case hw => w_witness2)
  k_fill
  refine L2.walk_of (l := PySem.Challenge.rw_countscribe_k39_whole_words_of_two_progr) (n := 63) (k := 17) (x := "_law_script") (CX := fun _ => C8.CX0) (sp := fun w => K39K.sp_law _) rfl (by decide) rfl ⟨rfl, by decide, by decide⟩ (fun w h Y => PySem.W.kIn_of Y) ?F (fun _ _ a ns hl _ hS => ⟨a, ns, rfl, hS, hl, fun _ => rfl⟩) (fun _ _ _ _ _ h => h)
  case F =>
    intro w mg fa h KX G hmg
    refine' CK.with_cls KX "KeptWord" (CK.clF_mk KX G ?a ?pg ?hd ?po ?sa ?mk ?kp ?ha ?hn ?htk ?hm) fun k_KeptWord => ?_
    (case a => k_is); (case pg => k_is); (case hd => k_is); (case po => k_is); (case sa => k_is); (case mk => k_is); (case kp => k_is); (case ha => k_is); (case hn => k_is); (case htk => k_is); (case hm => k_is)
    refine' CK.with_cls KX "OpenText" (CK.clF_mk KX G ?a ?pg ?hd ?po ?sa ?mk ?kp ?ha ?hn ?htk ?hm) fun k_OpenText => ?_
    (case a => k_is); (case pg => k_is); (case hd => k_is); (case po => k_is); (case sa => k_is); (case mk => k_is); (case kp => k_is); (case ha => k_is); (case hn => k_is); (case htk => k_is); (case hm => k_is)
    have nn_OpenText : CK.NeF _ _ := CK.neF_mk k_OpenText (by k_is) (by k_is)
    have f_ends : L2.NoAttr _ _ "_ends" := CK.noA k_KeptWord "_ends" (by k_is)
    have f_KeptWord_pieces : L2.NoAttr _ _ "_pieces" := CK.noA k_KeptWord "_pieces" (by k_is)
    have f_many : L2.NoAttr _ _ "_many" := CK.noA k_OpenText "_many" (by k_is)
    have f_pieces : L2.NoAttr _ _ "_pieces" := CK.noA k_OpenText "_pieces" (by k_is)
    refine' CK.with_def KX "_wall" (K39.topS 1) ["k"] (CK.defF_mk KX G ?a ?l ?c ?k fun _ _ _ _ _ _ us hl => match us, hl with | [_], _ => rfl) fun d_wall => ?_
    (case a => k_is); (case l => k_is); (case c => k_is); (case k => k_is)
    refine' CK.with_def KX "is_whole" (K39.topS 14) ["value"] (CK.defF_mk KX G ?a ?l ?c ?k fun _ _ _ _ _ _ us hl => match us, hl with | [_], _ => rfl) fun d_is_whole => ?_
    (case a => k_is); (case l => k_is); (case c => k_is); (case k => k_is)
    refine' CK.with_def KX "is_count" (K39.topS 15) ["value"] (CK.defF_mk KX G ?a ?l ?c ?k fun _ _ _ _ _ _ us hl => match us, hl with | [_], _ => rfl) fun d_is_count => ?_
    (case a => k_is); (case l => k_is); (case c => k_is); (case k => k_is)
    refine' CK.with_def KX "is_within" (K39.topS 16) ["value", "low", "high"] (CK.defF_mk KX G ?a ?l ?c ?k fun _ _ _ _ _ _ us hl => match us, hl with | [_, _, _], _ => rfl) fun d_is_within => ?_
    (case a => k_is); (case l => k_is); (case c => k_is); (case k => k_is)
    refine' CK.with_def KX "is_lettered" (K39.topS 17) ["value", "most"] (CK.defF_mk KX G ?a ?l ?c ?k fun _ _ _ _ _ _ us hl => match us, hl with | [_, _], _ => rfl) fun d_is_lettered => ?_
    (case a => k_is); (case l => k_is); (case c => k_is); (case k => k_is)
    refine' CK.with_def KX "is_counts" (K39.topS 18) ["value", "many"] (CK.defF_mk KX G ?a ?l ?c ?k fun _ _ _ _ _ _ us hl => match us, hl with | [_, _], _ => rfl) fun d_is_counts => ?_
    (case a => k_is); (case l => k_is); (case c => k_is); (case k => k_is)
    refine' CK.with_def KX "need_within" (K39.topS 19) ["value", "low", "high"] (CK.defF_mk KX G ?a ?l ?c ?k fun _ _ _ _ _ _ us hl => match us, hl with | [_, _, _], _ => rfl) fun d_need_within => ?_
    (case a => k_is); (case l => k_is); (case c => k_is); (case k => k_is)
    refine' CK.with_def KX "need_many" (K39.topS 20) ["value"] (CK.defF_mk KX G ?a ?l ?c ?k fun _ _ _ _ _ _ us hl => match us, hl with | [_], _ => rfl) fun d_need_many => ?_
    (case a => k_is); (case l => k_is); (case c => k_is); (case k => k_is)
    refine' CK.with_def KX "need_point" (K39.topS 21) ["value", "many"] (CK.defF_mk KX G ?a ?l ?c ?k fun _ _ _ _ _ _ us hl => match us, hl with | [_, _], _ => rfl) fun d_need_point => ?_
    (case a => k_is); (case l => k_is); (case c => k_is); (case k => k_is)
    refine' CK.with_def KX "is_form_for" (K39.topS 23) ["many", "value"] (CK.defF_mk KX G ?a ?l ?c ?k fun _ _ _ _ _ _ us hl => match us, hl with | [_, _], _ => rfl) fun d_is_form_for => ?_
    (case a => k_is); (case l => k_is); (case c => k_is); (case k => k_is)
    refine' CK.with_def KX "is_forms" (K39.topS 24) ["value", "size", "many"] (CK.defF_mk KX G ?a ?l ?c ?k fun _ _ _ _ _ _ us hl => match us, hl with | [_, _, _], _ => rfl) fun d_is_forms => ?_
    (case a => k_is); (case l => k_is); (case c => k_is); (case k => k_is)
    refine' CK.with_def KX "plain_form" (K39.topS 25) ["number", "many"] (CK.defF_mk KX G ?a ?l ?c ?k fun _ _ _ _ _ _ us hl => match us, hl with | [_, _], _ => rfl) fun d_plain_form => ?_
    (case a => k_is); (case l => k_is); (case c => k_is); (case k => k_is)
    refine' CK.with_def KX "form_value" (K39.topS 26) ["form", "point"] (CK.defF_mk KX G ?a ?l ?c ?k fun _ _ _ _ _ _ us hl => match us, hl with | [_, _], _ => rfl) fun d_form_value => ?_
    (case a => k_is); (case l => k_is); (case c => k_is); (case k => k_is)
    refine' CK.with_def KX "form_sum" (K39.topS 27) ["one", "other"] (CK.defF_mk KX G ?a ?l ?c ?k fun _ _ _ _ _ _ us hl => match us, hl with | [_, _], _ => rfl) fun d_form_sum => ?_
    (case a => k_is); (case l => k_is); (case c => k_is); (case k => k_is)
    refine' CK.with_def KX "form_times" (K39.topS 28) ["number", "form"] (CK.defF_mk KX G ?a ?l ?c ?k fun _ _ _ _ _ _ us hl => match us, hl with | [_, _], _ => rfl) fun d_form_times => ?_
    (case a => k_is); (case l => k_is); (case c => k_is); (case k => k_is)
    refine' CK.with_def KX "form_inserted" (K39.topS 29) ["form", "many", "forms"] (CK.defF_mk KX G ?a ?l ?c ?k fun _ _ _ _ _ _ us hl => match us, hl with | [_, _, _], _ => rfl) fun d_form_inserted => ?_
    (case a => k_is); (case l => k_is); (case c => k_is); (case k => k_is)
    refine' CK.with_def KX "turned_word" (K39.topS 31) ["word", "by"] (CK.defF_mk KX G ?a ?l ?c ?k fun _ _ _ _ _ _ us hl => match us, hl with | [_, _], _ => rfl) fun d_turned_word => ?_
    (case a => k_is); (case l => k_is); (case c => k_is); (case k => k_is)
    refine' CK.with_def KX "stretch" (K39.topS 32) ["word", "start", "size"] (CK.defF_mk KX G ?a ?l ?c ?k fun _ _ _ _ _ _ us hl => match us, hl with | [_, _, _], _ => rfl) fun d_stretch => ?_
    (case a => k_is); (case l => k_is); (case c => k_is); (case k => k_is)
    refine' CK.with_def KX "alike_ahead" (K39.topS 33) ["one", "other"] (CK.defF_mk KX G ?a ?l ?c ?k fun _ _ _ _ _ _ us hl => match us, hl with | [_, _], _ => rfl) fun d_alike_ahead => ?_
    (case a => k_is); (case l => k_is); (case c => k_is); (case k => k_is)
    refine' CK.with_def KX "alike_behind" (K39.topS 34) ["one", "other"] (CK.defF_mk KX G ?a ?l ?c ?k fun _ _ _ _ _ _ us hl => match us, hl with | [_, _], _ => rfl) fun d_alike_behind => ?_
    (case a => k_is); (case l => k_is); (case c => k_is); (case k => k_is)
    refine' CK.with_def KX "border_sizes" (K39.topS 35) ["word"] (CK.defF_mk KX G ?a ?l ?c ?k fun _ _ _ _ _ _ us hl => match us, hl with | [_], _ => rfl) fun d_border_sizes => ?_
    (case a => k_is); (case l => k_is); (case c => k_is); (case k => k_is)
    refine' CK.with_def KX "root_size" (K39.topS 36) ["word"] (CK.defF_mk KX G ?a ?l ?c ?k fun _ _ _ _ _ _ us hl => match us, hl with | [_], _ => rfl) fun d_root_size => ?_
    (case a => k_is); (case l => k_is); (case c => k_is); (case k => k_is)
    refine' CK.with_def KX "is_kept_piece" (K39.topS 41) ["value"] (CK.defF_mk KX G ?a ?l ?c ?k fun _ _ _ _ _ _ us hl => match us, hl with | [_], _ => rfl) fun d_is_kept_piece => ?_
    (case a => k_is); (case l => k_is); (case c => k_is); (case k => k_is)
    refine' CK.with_def KX "need_kept_pieces" (K39.topS 42) ["value"] (CK.defF_mk KX G ?a ?l ?c ?k fun _ _ _ _ _ _ us hl => match us, hl with | [_], _ => rfl) fun d_need_kept_pieces => ?_
    (case a => k_is); (case l => k_is); (case c => k_is); (case k => k_is)
    refine' CK.with_def KX "put_together" (K39.topS 43) ["pieces"] (CK.defF_mk KX G ?a ?l ?c ?k fun _ _ _ _ _ _ us hl => match us, hl with | [_], _ => rfl) fun d_put_together => ?_
    (case a => k_is); (case l => k_is); (case c => k_is); (case k => k_is)
    refine' CK.with_def KX "ends_of" (K39.topS 44) ["pieces"] (CK.defF_mk KX G ?a ?l ?c ?k fun _ _ _ _ _ _ us hl => match us, hl with | [_], _ => rfl) fun d_ends_of => ?_
    (case a => k_is); (case l => k_is); (case c => k_is); (case k => k_is)
    refine' CK.with_met k_KeptWord "__init__" "KeptWord.__init__" (L2.inClass (K39.topS 45) 0) ["self", "pieces"] (CK.metF_mk k_KeptWord _ _ _ _ ?a ?i ?l ?c ?k fun _ _ _ _ _ _ us hl => match us, hl with | [_, _], _ => rfl) fun d_KeptWord___init__ => ?_
    (case a => k_is); (case i => k_is); (case l => k_is); (case c => k_is); (case k => k_is)
    refine' CK.with_met k_KeptWord "pieces" "KeptWord.pieces" (L2.inClass (K39.topS 45) 1) ["self"] (CK.metF_mk k_KeptWord _ _ _ _ ?a ?i ?l ?c ?k fun _ _ _ _ _ _ us hl => match us, hl with | [_], _ => rfl) fun d_KeptWord_pieces => ?_
    (case a => k_is); (case i => k_is); (case l => k_is); (case c => k_is); (case k => k_is)
    refine' CK.with_met k_KeptWord "length" "KeptWord.length" (L2.inClass (K39.topS 45) 2) ["self"] (CK.metF_mk k_KeptWord _ _ _ _ ?a ?i ?l ?c ?k fun _ _ _ _ _ _ us hl => match us, hl with | [_], _ => rfl) fun d_KeptWord_length => ?_
    (case a => k_is); (case i => k_is); (case l => k_is); (case c => k_is); (case k => k_is)
    refine' CK.with_met k_KeptWord "letter" "KeptWord.letter" (L2.inClass (K39.topS 45) 3) ["self", "at"] (CK.metF_mk k_KeptWord _ _ _ _ ?a ?i ?l ?c ?k fun _ _ _ _ _ _ us hl => match us, hl with | [_, _], _ => rfl) fun d_KeptWord_letter => ?_
    (case a => k_is); (case i => k_is); (case l => k_is); (case c => k_is); (case k => k_is)
    refine' CK.with_met k_KeptWord "part" "KeptWord.part" (L2.inClass (K39.topS 45) 4) ["self", "low", "high"] (CK.metF_mk k_KeptWord _ _ _ _ ?a ?i ?l ?c ?k fun _ _ _ _ _ _ us hl => match us, hl with | [_, _, _], _ => rfl) fun d_KeptWord_part => ?_
    (case a => k_is); (case i => k_is); (case l => k_is); (case c => k_is); (case k => k_is)
    refine' CK.with_met k_KeptWord "plain" "KeptWord.plain" (L2.inClass (K39.topS 45) 5) ["self"] (CK.metF_mk k_KeptWord _ _ _ _ ?a ?i ?l ?c ?k fun _ _ _ _ _ _ us hl => match us, hl with | [_], _ => rfl) fun d_KeptWord_plain => ?_
    (case a => k_is); (case i => k_is); (case l => k_is); (case c => k_is); (case k => k_is)
    refine' CK.with_def KX "piece_index" (K39.topS 46) ["ends", "at"] (CK.defF_mk KX G ?a ?l ?c ?k fun _ _ _ _ _ _ us hl => match us, hl with | [_, _], _ => rfl) fun d_piece_index => ?_
    (case a => k_is); (case l => k_is); (case c => k_is); (case k => k_is)
    refine' CK.with_def KX "need_kept" (K39.topS 47) ["value"] (CK.defF_mk KX G ?a ?l ?c ?k fun _ _ _ _ _ _ us hl => match us, hl with | [_], _ => rfl) fun d_need_kept => ?_
    (case a => k_is); (case l => k_is); (case c => k_is); (case k => k_is)
    refine' CK.with_def KX "sizes_of" (K39.topS 49) ["pieces"] (CK.defF_mk KX G ?a ?l ?c ?k fun _ _ _ _ _ _ us hl => match us, hl with | [_], _ => rfl) fun d_sizes_of => ?_
    (case a => k_is); (case l => k_is); (case c => k_is); (case k => k_is)
    refine' CK.with_def KX "place_within" (K39.topS 50) ["sizes", "at"] (CK.defF_mk KX G ?a ?l ?c ?k fun _ _ _ _ _ _ us hl => match us, hl with | [_, _], _ => rfl) fun d_place_within => ?_
    (case a => k_is); (case l => k_is); (case c => k_is); (case k => k_is)
    refine' CK.with_def KX "alike_from" (K39.topS 51) ["one", "one_at", "other", "other_at"] (CK.defF_mk KX G ?a ?l ?c ?k fun _ _ _ _ _ _ us hl => match us, hl with | [_, _, _, _], _ => rfl) fun d_alike_from => ?_
    (case a => k_is); (case l => k_is); (case c => k_is); (case k => k_is)
    refine' CK.with_def KX "agree" (K39.topS 53) ["one", "other"] (CK.defF_mk KX G ?a ?l ?c ?k fun _ _ _ _ _ _ us hl => match us, hl with | [_, _], _ => rfl) fun d_agree => ?_
    (case a => k_is); (case l => k_is); (case c => k_is); (case k => k_is)
    refine' CK.with_def KX "compare" (K39.topS 54) ["one", "other"] (CK.defF_mk KX G ?a ?l ?c ?k fun _ _ _ _ _ _ us hl => match us, hl with | [_, _], _ => rfl) fun d_compare => ?_
    (case a => k_is); (case l => k_is); (case c => k_is); (case k => k_is)
    refine' CK.with_def KX "same_kept" (K39.topS 55) ["one", "other"] (CK.defF_mk KX G ?a ?l ?c ?k fun _ _ _ _ _ _ us hl => match us, hl with | [_, _], _ => rfl) fun d_same_kept => ?_
    (case a => k_is); (case l => k_is); (case c => k_is); (case k => k_is)
    refine' CK.with_def KX "is_piece" (K39.topS 60) ["many", "value"] (CK.defF_mk KX G ?a ?l ?c ?k fun _ _ _ _ _ _ us hl => match us, hl with | [_, _], _ => rfl) fun d_is_piece => ?_
    (case a => k_is); (case l => k_is); (case c => k_is); (case k => k_is)
    refine' CK.with_def KX "is_open_form" (K39.topS 61) ["form"] (CK.defF_mk KX G ?a ?l ?c ?k fun _ _ _ _ _ _ us hl => match us, hl with | [_], _ => rfl) fun d_is_open_form => ?_
    (case a => k_is); (case l => k_is); (case c => k_is); (case k => k_is)
    refine' CK.with_def KX "is_power" (K39.topS 62) ["piece"] (CK.defF_mk KX G ?a ?l ?c ?k fun _ _ _ _ _ _ us hl => match us, hl with | [_], _ => rfl) fun d_is_power => ?_
    (case a => k_is); (case l => k_is); (case c => k_is); (case k => k_is)
    refine' CK.with_def KX "fixed_piece" (K39.topS 63) ["word", "many"] (CK.defF_mk KX G ?a ?l ?c ?k fun _ _ _ _ _ _ us hl => match us, hl with | [_, _], _ => rfl) fun d_fixed_piece => ?_
    (case a => k_is); (case l => k_is); (case c => k_is); (case k => k_is)
    refine' CK.with_def KX "measure" (K39.topS 64) ["pieces"] (CK.defF_mk KX G ?a ?l ?c ?k fun _ _ _ _ _ _ us hl => match us, hl with | [_], _ => rfl) fun d_measure => ?_
    (case a => k_is); (case l => k_is); (case c => k_is); (case k => k_is)
    refine' CK.with_def KX "letters_in" (K39.topS 65) ["pieces"] (CK.defF_mk KX G ?a ?l ?c ?k fun _ _ _ _ _ _ us hl => match us, hl with | [_], _ => rfl) fun d_letters_in => ?_
    (case a => k_is); (case l => k_is); (case c => k_is); (case k => k_is)
    refine' CK.with_def KX "powers_in" (K39.topS 66) ["pieces"] (CK.defF_mk KX G ?a ?l ?c ?k fun _ _ _ _ _ _ us hl => match us, hl with | [_], _ => rfl) fun d_powers_in => ?_
    (case a => k_is); (case l => k_is); (case c => k_is); (case k => k_is)
    refine' CK.with_def KX "normal_pieces" (K39.topS 67) ["pieces"] (CK.defF_mk KX G ?a ?l ?c ?k fun _ _ _ _ _ _ us hl => match us, hl with | [_], _ => rfl) fun d_normal_pieces => ?_
    (case a => k_is); (case l => k_is); (case c => k_is); (case k => k_is)
    refine' CK.with_def KX "put_fixed" (K39.topS 68) ["ready", "word", "many"] (CK.defF_mk KX G ?a ?l ?c ?k fun _ _ _ _ _ _ us hl => match us, hl with | [_, _, _], _ => rfl) fun d_put_fixed => ?_
    (case a => k_is); (case l => k_is); (case c => k_is); (case k => k_is)
    refine' CK.with_def KX "put_power" (K39.topS 69) ["ready", "word", "form"] (CK.defF_mk KX G ?a ?l ?c ?k fun _ _ _ _ _ _ us hl => match us, hl with | [_, _, _], _ => rfl) fun d_put_power => ?_
    (case a => k_is); (case l => k_is); (case c => k_is); (case k => k_is)
    refine' CK.with_def KX "need_pieces" (K39.topS 71) ["many", "pieces"] (CK.defF_mk KX G ?a ?l ?c ?k fun _ _ _ _ _ _ us hl => match us, hl with | [_, _], _ => rfl) fun d_need_pieces => ?_
    (case a => k_is); (case l => k_is); (case c => k_is); (case k => k_is)
    refine' CK.with_def KX "need_measure" (K39.topS 72) ["total"] (CK.defF_mk KX G ?a ?l ?c ?k fun _ _ _ _ _ _ us hl => match us, hl with | [_], _ => rfl) fun d_need_measure => ?_
    (case a => k_is); (case l => k_is); (case c => k_is); (case k => k_is)
    refine' CK.with_def KX "normal" (K39.topS 73) ["many", "pieces"] (CK.defF_mk KX G ?a ?l ?c ?k fun _ _ _ _ _ _ us hl => match us, hl with | [_, _], _ => rfl) fun d_normal => ?_
    (case a => k_is); (case l => k_is); (case c => k_is); (case k => k_is)
    refine' CK.with_met k_OpenText "__init__" "OpenText.__init__" (L2.inClass (K39.topS 75) 0) ["self", "many", "pieces"] (CK.metF_mk k_OpenText _ _ _ _ ?a ?i ?l ?c ?k fun _ _ _ _ _ _ us hl => match us, hl with | [_, _, _], _ => rfl) fun d_OpenText___init__ => ?_
    (case a => k_is); (case i => k_is); (case l => k_is); (case c => k_is); (case k => k_is)
    refine' CK.with_met k_OpenText "__eq__" "OpenText.__eq__" (L2.inClass (K39.topS 75) 1) ["self", "other"] (CK.metF_mk k_OpenText _ _ _ _ ?a ?i ?l ?c ?k fun _ _ _ _ _ _ us hl => match us, hl with | [_, _], _ => rfl) fun d_OpenText___eq__ => ?_
    (case a => k_is); (case i => k_is); (case l => k_is); (case c => k_is); (case k => k_is)
    refine' CK.with_met k_OpenText "many" "OpenText.many" (L2.inClass (K39.topS 75) 2) ["self"] (CK.metF_mk k_OpenText _ _ _ _ ?a ?i ?l ?c ?k fun _ _ _ _ _ _ us hl => match us, hl with | [_], _ => rfl) fun d_OpenText_many => ?_
    (case a => k_is); (case i => k_is); (case l => k_is); (case c => k_is); (case k => k_is)
    refine' CK.with_met k_OpenText "pieces" "OpenText.pieces" (L2.inClass (K39.topS 75) 3) ["self"] (CK.metF_mk k_OpenText _ _ _ _ ?a ?i ?l ?c ?k fun _ _ _ _ _ _ us hl => match us, hl with | [_], _ => rfl) fun d_OpenText_pieces => ?_
    (case a => k_is); (case i => k_is); (case l => k_is); (case c => k_is); (case k => k_is)
    refine' CK.with_def KX "need_text" (K39.topS 76) ["value"] (CK.defF_mk KX G ?a ?l ?c ?k fun _ _ _ _ _ _ us hl => match us, hl with | [_], _ => rfl) fun d_need_text => ?_
    (case a => k_is); (case l => k_is); (case c => k_is); (case k => k_is)
    refine' CK.with_def KX "need_text_along" (K39.topS 77) ["value"] (CK.defF_mk KX G ?a ?l ?c ?k fun _ _ _ _ _ _ us hl => match us, hl with | [_], _ => rfl) fun d_need_text_along => ?_
    (case a => k_is); (case l => k_is); (case c => k_is); (case k => k_is)
    refine' CK.with_def KX "text_of" (K39.topS 78) ["many", "pieces"] (CK.defF_mk KX G ?a ?l ?c ?k fun _ _ _ _ _ _ us hl => match us, hl with | [_, _], _ => rfl) fun d_text_of => ?_
    (case a => k_is); (case l => k_is); (case c => k_is); (case k => k_is)
    refine' CK.with_def KX "size" (K39.topS 79) ["text"] (CK.defF_mk KX G ?a ?l ?c ?k fun _ _ _ _ _ _ us hl => match us, hl with | [_], _ => rfl) fun d_size => ?_
    (case a => k_is); (case l => k_is); (case c => k_is); (case k => k_is)
    refine' CK.with_def KX "counted" (K39.topS 80) ["text", "point"] (CK.defF_mk KX G ?a ?l ?c ?k fun _ _ _ _ _ _ us hl => match us, hl with | [_, _], _ => rfl) fun d_counted => ?_
    (case a => k_is); (case l => k_is); (case c => k_is); (case k => k_is)
    refine' CK.with_def KX "kept" (K39.topS 81) ["text", "point"] (CK.defF_mk KX G ?a ?l ?c ?k fun _ _ _ _ _ _ us hl => match us, hl with | [_, _], _ => rfl) fun d_kept => ?_
    (case a => k_is); (case l => k_is); (case c => k_is); (case k => k_is)
    refine' CK.with_def KX "length" (K39.topS 82) ["text"] (CK.defF_mk KX G ?a ?l ?c ?k fun _ _ _ _ _ _ us hl => match us, hl with | [_], _ => rfl) fun d_length => ?_
    (case a => k_is); (case l => k_is); (case c => k_is); (case k => k_is)
    refine' CK.with_def KX "replaced" (K39.topS 83) ["text", "many", "forms"] (CK.defF_mk KX G ?a ?l ?c ?k fun _ _ _ _ _ _ us hl => match us, hl with | [_, _, _], _ => rfl) fun d_replaced => ?_
    (case a => k_is); (case l => k_is); (case c => k_is); (case k => k_is)
    refine' CK.with_def KX "agreeing" (K39.topS 85) ["one", "other"] (CK.defF_mk KX G ?a ?l ?c ?k fun _ _ _ _ _ _ us hl => match us, hl with | [_, _], _ => rfl) fun d_agreeing => ?_
    (case a => k_is); (case l => k_is); (case c => k_is); (case k => k_is)
    refine' CK.with_def KX "agreeing_counts" (K39.topS 86) ["one", "other"] (CK.defF_mk KX G ?a ?l ?c ?k fun _ _ _ _ _ _ us hl => match us, hl with | [_, _], _ => rfl) fun d_agreeing_counts => ?_
    (case a => k_is); (case l => k_is); (case c => k_is); (case k => k_is)
    refine' CK.with_def KX "shared" (K39.topS 87) ["one", "other"] (CK.defF_mk KX G ?a ?l ?c ?k fun _ _ _ _ _ _ us hl => match us, hl with | [_, _], _ => rfl) fun d_shared => ?_
    (case a => k_is); (case l => k_is); (case c => k_is); (case k => k_is)
    refine' CK.with_def KX "shared_text" (K39.topS 88) ["one", "other"] (CK.defF_mk KX G ?a ?l ?c ?k fun _ _ _ _ _ _ us hl => match us, hl with | [_, _], _ => rfl) fun d_shared_text => ?_
    (case a => k_is); (case l => k_is); (case c => k_is); (case k => k_is)
    refine' CK.with_def KX "need_power_text" (K39.topS 89) ["value"] (CK.defF_mk KX G ?a ?l ?c ?k fun _ _ _ _ _ _ us hl => match us, hl with | [_], _ => rfl) fun d_need_power_text => ?_
    (case a => k_is); (case l => k_is); (case c => k_is); (case k => k_is)
    refine' CK.with_def KX "length_line" (K39.topS 90) ["one", "other"] (CK.defF_mk KX G ?a ?l ?c ?k fun _ _ _ _ _ _ us hl => match us, hl with | [_, _], _ => rfl) fun d_length_line => ?_
    (case a => k_is); (case l => k_is); (case c => k_is); (case k => k_is)
    refine' CK.with_def KX "inverse" (K39.topS 91) ["number", "modulus"] (CK.defF_mk KX G ?a ?l ?c ?k fun _ _ _ _ _ _ us hl => match us, hl with | [_, _], _ => rfl) fun d_inverse => ?_
    (case a => k_is); (case l => k_is); (case c => k_is); (case k => k_is)
    refine' CK.with_def KX "_law_hash" (K39.topS 93) ["_law_seed", "_law_index"] (CK.defF_mk KX G ?a ?l ?c ?k fun _ _ _ _ _ _ us hl => match us, hl with | [_, _], _ => rfl) fun d_law_hash => ?_
    (case a => k_is); (case l => k_is); (case c => k_is); (case k => k_is)
    refine' CK.with_def KX "_law_random" (K39.topS 94) ["_law_generator_here", "_law_bound"] (CK.defF_mk KX G ?a ?l ?c ?k fun _ _ _ _ _ _ us hl => match us, hl with | [_, _], _ => rfl) fun d_law_random => ?_
    (case a => k_is); (case l => k_is); (case c => k_is); (case k => k_is)
    refine' CK.with_def KX "_law_cell" (K39.topS 95) ["_law_script", "_law_index"] (CK.defF_mk KX G ?a ?l ?c ?k fun _ _ _ _ _ _ us hl => match us, hl with | [_, _], _ => rfl) fun d_law_cell => ?_
    (case a => k_is); (case l => k_is); (case c => k_is); (case k => k_is)
    refine' CK.with_def KX "_law_generator" (K39.topS 96) ["_law_script", "_law_index"] (CK.defF_mk KX G ?a ?l ?c ?k fun _ _ _ _ _ _ us hl => match us, hl with | [_, _], _ => rfl) fun d_law_generator => ?_
    (case a => k_is); (case l => k_is); (case c => k_is); (case k => k_is)
    refine' CK.with_def KX "_law_letters" (K39.topS 97) ["_law_generator_here"] (CK.defF_mk KX G ?a ?l ?c ?k fun _ _ _ _ _ _ us hl => match us, hl with | [_], _ => rfl) fun d_law_letters => ?_
    (case a => k_is); (case l => k_is); (case c => k_is); (case k => k_is)
    refine' CK.with_def KX "_law_word" (K39.topS 98) ["_law_generator_here", "_law_letters_here", "_law_least", "_law_most"] (CK.defF_mk KX G ?a ?l ?c ?k fun _ _ _ _ _ _ us hl => match us, hl with | [_, _, _, _], _ => rfl) fun d_law_word => ?_
    (case a => k_is); (case l => k_is); (case c => k_is); (case k => k_is)
    refine' CK.with_def KX "_law_plain" (K39.topS 99) ["_law_many", "_law_number"] (CK.defF_mk KX G ?a ?l ?c ?k fun _ _ _ _ _ _ us hl => match us, hl with | [_, _], _ => rfl) fun d_law_plain => ?_
    (case a => k_is); (case l => k_is); (case c => k_is); (case k => k_is)
    refine' CK.with_def KX "_law_form" (K39.topS 100) ["_law_generator_here", "_law_many", "_law_constant", "_law_most"] (CK.defF_mk KX G ?a ?l ?c ?k fun _ _ _ _ _ _ us hl => match us, hl with | [_, _, _, _], _ => rfl) fun d_law_form => ?_
    (case a => k_is); (case l => k_is); (case c => k_is); (case k => k_is)
    refine' CK.with_def KX "_law_piece" (K39.topS 101) ["_law_generator_here", "_law_many", "_law_letters_here", "_law_core", "_law_most"] (CK.defF_mk KX G ?a ?l ?c ?k fun _ _ _ _ _ _ us hl => match us, hl with | [_, _, _, _, _], _ => rfl) fun d_law_piece => ?_
    (case a => k_is); (case l => k_is); (case c => k_is); (case k => k_is)
    refine' CK.with_def KX "_law_text" (K39.topS 102) ["_law_generator_here", "_law_letters_here", "_law_most"] (CK.defF_mk KX G ?a ?l ?c ?k fun _ _ _ _ _ _ us hl => match us, hl with | [_, _, _], _ => rfl) fun d_law_text => ?_
    (case a => k_is); (case l => k_is); (case c => k_is); (case k => k_is)
    refine' CK.with_def KX "_law_common" (K39.topS 103) ["_law_one", "_law_other"] (CK.defF_mk KX G ?a ?l ?c ?k fun _ _ _ _ _ _ us hl => match us, hl with | [_, _], _ => rfl) fun d_law_common => ?_
    (case a => k_is); (case l => k_is); (case c => k_is); (case k => k_is)
    refine' CK.with_def KX "_law_least_pair" (K39.topS 104) ["_law_first", "_law_by", "_law_second", "_law_to"] (CK.defF_mk KX G ?a ?l ?c ?k fun _ _ _ _ _ _ us hl => match us, hl with | [_, _, _, _], _ => rfl) fun d_law_least_pair => ?_
    (case a => k_is); (case l => k_is); (case c => k_is); (case k => k_is)
    refine' CK.with_def KX "_law_told_right" (K39.topS 105) ["_law_generator_here", "_law_text_here", "_law_ways", "_law_due"] (CK.defF_mk KX G ?a ?l ?c ?k fun _ _ _ _ _ _ us hl => match us, hl with | [_, _, _, _], _ => rfl) fun d_law_told_right => ?_
    (case a => k_is); (case l => k_is); (case c => k_is); (case k => k_is)
    refine' CK.with_def KX "_law_right" (K39.topS 106) ["_law_generator_here"] (CK.defF_mk KX G ?a ?l ?c ?k fun _ _ _ _ _ _ us hl => match us, hl with | [_], _ => rfl) fun d_law_right => ?_
    (case a => k_is); (case l => k_is); (case c => k_is); (case k => k_is)
    refine' CK.with_def KX "law" (K39.topS 107) ["_law_script"] (CK.defF_mk KX G ?a ?l ?c ?k fun _ _ _ _ _ _ us hl => match us, hl with | [_], _ => rfl) fun d_law => ?_
    (case a => k_is); (case l => k_is); (case c => k_is); (case k => k_is)
    have g_gcd : mg "gcd" = some (.builtin "math.gcd") := by
      refine PySem.W.mg_of KX G ?z
      (case z => k_is)
    have m_all : mg "all" = none := by
      refine' PySem.W.mg_none_of KX G ?z
      (case z => k_is)
    have m_any : mg "any" = none := by
      refine' PySem.W.mg_none_of KX G ?z
      (case z => k_is)
    have m_bool : mg "bool" = none := by
      refine' PySem.W.mg_none_of KX G ?z
      (case z => k_is)
    have m_enumerate : mg "enumerate" = none := by
      refine' PySem.W.mg_none_of KX G ?z
      (case z => k_is)
    have m_int : mg "int" = none := by
      refine' PySem.W.mg_none_of KX G ?z
      (case z => k_is)
    have m_isinstance : mg "isinstance" = none := by
      refine' PySem.W.mg_none_of KX G ?z
      (case z => k_is)
    have m_len : mg "len" = none := by
      refine' PySem.W.mg_none_of KX G ?z
      (case z => k_is)
    have m_list : mg "list" = none := by
      refine' PySem.W.mg_none_of KX G ?z
      (case z => k_is)
    have m_max : mg "max" = none := by
      refine' PySem.W.mg_none_of KX G ?z
      (case z => k_is)
    have m_min : mg "min" = none := by
      refine' PySem.W.mg_none_of KX G ?z
      (case z => k_is)
    have m_range : mg "range" = none := by
      refine' PySem.W.mg_none_of KX G ?z
      (case z => k_is)
    have m_str : mg "str" = none := by
      refine' PySem.W.mg_none_of KX G ?z
      (case z => k_is)
    have m_sum : mg "sum" = none := by
      refine' PySem.W.mg_none_of KX G ?z
      (case z => k_is)
    have m_tuple : mg "tuple" = none := by
      refine' PySem.W.mg_none_of KX G ?z
      (case z => k_is)
    have m_zip : mg "zip" = none := by
      refine' PySem.W.mg_none_of KX G ?z
      (case z => k_is)
    have k_MOST_KEPT_LETTERS : ∃ u, mg "MOST_KEPT_LETTERS" = some u ∧ L2.RelV (.int 10000) u := by
      refine' ⟨?u_MOST_KEPT_LETTERS, PySem.W.mg_of KX G ?z_MOST_KEPT_LETTERS, ?r_MOST_KEPT_LETTERS⟩
      (case z_MOST_KEPT_LETTERS => k_is)
      all_goals exact ⟨_, rfl⟩
    have k_MOST_KEPT_PIECES : ∃ u, mg "MOST_KEPT_PIECES" = some u ∧ L2.RelV (.int 5000) u := by
      refine' ⟨?u_MOST_KEPT_PIECES, PySem.W.mg_of KX G ?z_MOST_KEPT_PIECES, ?r_MOST_KEPT_PIECES⟩
      (case z_MOST_KEPT_PIECES => k_is)
      all_goals exact ⟨_, rfl⟩
    have k_MOST_KEPT_WORD : ∃ u, mg "MOST_KEPT_WORD" = some u ∧ L2.RelV (.int 2000) u := by
      refine' ⟨?u_MOST_KEPT_WORD, PySem.W.mg_of KX G ?z_MOST_KEPT_WORD, ?r_MOST_KEPT_WORD⟩
      (case z_MOST_KEPT_WORD => k_is)
      all_goals exact ⟨_, rfl⟩
    have k_MOST_MEASURE : ∃ u, mg "MOST_MEASURE" = some u ∧ L2.RelV (.int 2000) u := by
      refine' ⟨?u_MOST_MEASURE, PySem.W.mg_of KX G ?z_MOST_MEASURE, ?r_MOST_MEASURE⟩
      (case z_MOST_MEASURE => k_is)
      all_goals exact ⟨_, rfl⟩
    have k_MOST_PIECES : ∃ u, mg "MOST_PIECES" = some u ∧ L2.RelV (.int 5000) u := by
      refine' ⟨?u_MOST_PIECES, PySem.W.mg_of KX G ?z_MOST_PIECES, ?r_MOST_PIECES⟩
      (case z_MOST_PIECES => k_is)
      all_goals exact ⟨_, rfl⟩
    have k_MOST_PIECE_LETTERS : ∃ u, mg "MOST_PIECE_LETTERS" = some u ∧ L2.RelV (.int 2000) u := by
      refine' ⟨?u_MOST_PIECE_LETTERS, PySem.W.mg_of KX G ?z_MOST_PIECE_LETTERS, ?r_MOST_PIECE_LETTERS⟩
      (case z_MOST_PIECE_LETTERS => k_is)
      all_goals exact ⟨_, rfl⟩
    have k_MOST_UNKNOWNS : ∃ u, mg "MOST_UNKNOWNS" = some u ∧ L2.RelV (.int 3) u := by
      refine' ⟨?u_MOST_UNKNOWNS, PySem.W.mg_of KX G ?z_MOST_UNKNOWNS, ?r_MOST_UNKNOWNS⟩
      (case z_MOST_UNKNOWNS => k_is)
      all_goals exact ⟨_, rfl⟩
    have T : K39.Txt _ mg _ _ := ⟨k_KeptWord, k_OpenText, nn_OpenText, f_ends, f_KeptWord_pieces, f_many, f_pieces, d_wall, d_is_whole, d_is_count, d_is_within, d_is_lettered, d_is_counts, d_need_within, d_need_many, d_need_point, d_is_form_for, d_is_forms, d_plain_form, d_form_value, d_form_sum, d_form_times, d_form_inserted, d_turned_word, d_stretch, d_alike_ahead, d_alike_behind, d_border_sizes, d_root_size, d_is_kept_piece, d_need_kept_pieces, d_put_together, d_ends_of, d_KeptWord___init__, d_KeptWord_pieces, d_KeptWord_length, d_KeptWord_letter, d_KeptWord_part, d_KeptWord_plain, d_piece_index, d_need_kept, d_sizes_of, d_place_within, d_alike_from, d_agree, d_compare, d_same_kept, d_is_piece, d_is_open_form, d_is_power, d_fixed_piece, d_measure, d_letters_in, d_powers_in, d_normal_pieces, d_put_fixed, d_put_power, d_need_pieces, d_need_measure, d_normal, d_OpenText___init__, d_OpenText___eq__, d_OpenText_many, d_OpenText_pieces, d_need_text, d_need_text_along, d_text_of, d_size, d_counted, d_kept, d_length, d_replaced, d_agreeing, d_agreeing_counts, d_shared, d_shared_text, d_need_power_text, d_length_line, d_inverse, d_law_hash, d_law_random, d_law_cell, d_law_generator, d_law_letters, d_law_word, d_law_plain, d_law_form, d_law_piece, d_law_text, d_law_common, d_law_least_pair, d_law_told_right, d_law_right, d_law, g_gcd, m_all, m_any, m_bool, m_enumerate, m_int, m_isinstance, m_len, m_list, m_max, m_min, m_range, m_str, m_sum, m_tuple, m_zip, k_MOST_KEPT_LETTERS, k_MOST_KEPT_PIECES, k_MOST_KEPT_WORD, k_MOST_MEASURE, k_MOST_PIECES, k_MOST_PIECE_LETTERS, k_MOST_UNKNOWNS⟩
    exact K39K.law_end T hmg
